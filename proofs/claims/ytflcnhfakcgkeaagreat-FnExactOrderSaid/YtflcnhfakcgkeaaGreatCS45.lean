import Derived.Test.YtflcnhfakcgkeaaGreatCS44
import Derived.Test.YtflcnhfakcgkeaaGreatImplB
namespace Go.Proofs.YtflcnhfakcgkeaaGreat
open Go.RowKit
set_option linter.unusedSimpArgs false
set_option linter.unusedVariables false
set_option maxRecDepth 20000 in
set_option maxHeartbeats 8000000 in
theorem aji (ns:List ay) (v:Value) (w:World) (h1:bf 5 112 o7 0 w v ns) :
  Calls Tryz.prog 27 #[.agg #[v]] w fun e w'=>e=.returned (.tuple #[.int .i64 (qp ns).1,.int .i64 (qp ns).2.1,.int .i64 (qp ns).2.2])∧Below w.heap.size w w':=by
 obtain⟨b0,c0,rfl⟩:=h1.shape
 have n1:=h1.len'
 have B0:=hide ((Below.refl w.heap.size w).alloc (Nat.le_refl _) (.cells #[.slice b0 ns.length c0] 30))
 have Wy:=hide (ajj ns _ _ (h1.stays jk (uh B0)))
 have H1:=hide h1
 clear h1
 cases hsh:Ar ns
 ·have HR:Hid (qp ns=(1,0,0)):=by
   show qp ns=(1,0,0)
   unfold qp
   rw[if_pos hsh]
  have J3:=uh Wy
  rw[hsh] at J3
  have Fb:=hide J3
  have k0:=(jd w #[.slice b0 ns.length c0] 30).cell (i:=0) (v:=.slice b0 ns.length c0) rfl
  clear J3 Wy hsh
  generalize qp ns=R at *
  go_enter Tryz.func27,Tryz.ntmps27
  go_wp2_with fail
  refine(uh Fb).mono ?_
  rintro e w1 ⟨rfl,hb1⟩
  have BB:Hid (Below w.heap.size w w1):=(uh B0).trans (hb1.mono (uh B0).size)
  clear hb1
  go_wp2
  go_ret3
  exact⟨Qe (uh HR),uh BB⟩
 ·have hnb:∀n,n∈ns->qw n=true:=fun n hn=>by
   have h9:=hsh
   unfold Ar at h9
   rw[Bool.and_eq_true] at h9
   exact List.all_eq_true.1 h9.2 n hn
  have hsl:=ad3 ns hsh
  have hl1:1<=ns.length:=by
   have h9:=hsh
   unfold Ar at h9
   simp only[Bool.and_eq_true,decide_eq_true_iff] at h9
   exact h9.1.1
  obtain⟨b,o,cz,hv,_⟩:=(uh H1).at' 0 (by omega)
  simp only[Value.slice.injEq] at hv
  obtain⟨rfl,H8,rfl⟩:=hv
  clear H8
  have HAT:Hid (∀i (h:i<ns.length),At 5 o7 w b (o+i*5) ns[i]):=fun i h=>by
   obtain⟨b',o',c',hv,ha⟩:=(uh H1).at' i h
   simp only[Value.slice.injEq,Option.some.injEq,Addr.mk.injEq] at hv
   obtain⟨⟨rfl,rfl,_⟩,_,_⟩:=hv
   exact ha
  have HNF:Hid (∀i (h:i<ns.length),Bh ns i=Ri ⟨Classical.propDecidable⟩ ns i ns[i]):=fun i h=>by rw[acw ns i h,aw7 ⟨Classical.propDecidable⟩ h hnb]
  have Gi:Hid (∀i,i<ns.length->((Bh ns i).1 != 0)=true->(∀j,j<i->((Bh ns j).1 != 0)=false)->qp ns=((Bh ns i).1,(i:Int),(Bh ns i).2)):=fun i hi h h'=>by
   unfold qp
   rw[if_neg (by rw[hsh];simp),Fe hi h h']
  have Ox:Hid ((∀j,j<ns.length->((Bh ns j).1 != 0)=false)->qp ns=(0,0,0)):=fun h=>by
   unfold qp
   rw[if_neg (by rw[hsh];simp),zk h]
  have Uw:=hide (ajk ns hsh)
  have Ht:=hide (aqa ns (an3 ns hsh))
  have Gl:=hide hnb
  have J3:=uh Wy
  rw[hsh] at J3
  have Fb:=hide J3
  have hmm:=@run_makeMap Tryz.prog
  clear J3 Wy hsh hnb
  generalize qp ns=R at *
  go_enter Tryz.func27,Tryz.ntmps27
  go_wp2_with fail
  refine(uh Fb).mono ?_
  rintro e w1 ⟨rfl,hb1⟩
  have Gq:=hide (Vy hb1)
  have Zo:Hid (∀w',Below w1.heap.size w1 w'->Below w.heap.size w w'∧w'.cell? ⟨w.heap.size,0,none⟩=some (.slice (some ⟨b,o,none⟩) ns.length c0)):=fun w' hb=>by
   have h2:Below (w.heap.size+1) (w.alloc (.cells #[.slice (some ⟨b,o,none⟩) ns.length c0] 30)) w':=(uh Gq).trans (hb.mono (by have:=(uh Gq).size;simpa using this))
   exact⟨(uh B0).trans (h2.mono (Nat.le_succ _)),by rw[ou (B:=0) h2 0];rfl⟩
  have BM:=hide ((Below.refl w1.heap.size w1).alloc (Nat.le_refl _) (.map #[] 0))
  have k1:=(uh Zo _ (uh BM)).2
  have HL0:=hide (atn w1 b o ns)
  clear hb1 Fb
  go_wp2
  clear k1 hmm
  go_loopg [18] ns.length (fun g i' wr=>∃(i:Nat),i<=ns.length∧g=ns.length-i∧i'=.int .i64 i∧(∀j,j<i->((Bh ns j).1 != 0)=false)∧Below w1.heap.size w1 wr∧Hu wr w1.heap.size b o ns i)
  case atStart=>exact⟨0,Nat.zero_le _,by omega,rfl,fun j hj=>absurd hj (Nat.not_lt_zero _),uh BM,uh HL0⟩
  case round =>
   obtain⟨i,hi,hg,rfl,hno,hb,ajl⟩:=hrel
   rename World=>wr
   have HG:=hide hg
   have jo:=hide hno
   have HB:=hide hb
   have as1:=hide ajl
   obtain⟨hbw,k1⟩:=uh Zo wr hb
   have HBW:=hide hbw
   clear hg hno HL0 BM
   by_cases hlt:i<ns.length
   case neg =>
    have e:i=ns.length:=by omega
    subst e
    have HR:=hide (uh Ox (uh jo))
    have Ec:¬(ns.length:Int)<(ns.length:Int):=by omega
    have gq:Hid (Below w.heap.size w wr):=hbw
    clear hb ajl hbw
    go_wp2
    go_ret3
    exact⟨Qe (uh HR),uh gq⟩
   have hat:=(uh HAT i hlt).stays jk hbw
   have aze:∀j (hj:j<ns.length),At 5 o7 wr b (o+j*5) ns[j]:=fun j hj=>(uh HAT j hj).stays jk hbw
   have hxb:=uh Gl _ (List.getElem_mem hlt)
   have I7:=((yg ns[i]).1 hxb).1
   have hvl:(aj ns[i]).length<=500:=by
    unfold aj
    rw[List.length_append,List.length_append]
    exact I7.2.1
   have HNS:=hide (ab4 wr ns[i] b (o+i*5) hat (fun v hv=>by have:=((S9 v).1 (Nj hxb v hv)).2.2.1;omega) (by omega))
   have HEE:Hid (∀e,e∈ns[i].eqs->e.call.size=0->jh ns i e.call<0):=fun e _ hc=>uh Ht i e.call hc
   have an4:Hid (∀sb vb ov D C L N w2,Sc wr w2 (.pointer (some ⟨b,o+i*5,none⟩)) .nilFunc (aj ns[i]) (qx ns[i]) sb vb ov D C L N->N<=1000*(aj ns[i]).length->Calls Tryz.prog 47 #[.pointer (some ⟨w2.heap.size,0,none⟩)] (w2.alloc (.cells #[.pointer (some ⟨sb,0,none⟩),.map (some w1.heap.size)] 107)) fun e w'=>e=.returned (.tuple #[.int .i64 (Bh ns i).1,.int .i64 (Bh ns i).2])∧Below wr.heap.size wr w'):=fun sb vb ov D C L N w2 hsc hN=>by
    have hal:Below w2.heap.size w2 (w2.alloc (.cells #[.pointer (some ⟨sb,0,none⟩),.map (some w1.heap.size)] 107)):=(Below.refl _ _).alloc (Nat.le_refl _) _
    rw[uh HNF i hlt]
    refine atl ⟨Classical.propDecidable⟩ wr _ ns i ns[i] b o w2.heap.size w1.heap.size sb vb ov D C L N ⟨hsc.below hal,jd w2 _ _,ajl,hat,hsc.old.size⟩ ?_ (by omega) aze (uh Gl) hxb (uh Uw _ (List.getElem_mem hlt)) (uh HEE)
    have:=Nat.mul_le_mul_left 1000 hvl
    omega
   have ato:Hid (∀w',Below wr.heap.size wr w'->Calls Tryz.prog 48 #[.map (some w1.heap.size),.pointer (some ⟨b,o+i*5,none⟩)] w' fun e w''=>e=.returned (.tuple #[])∧Hu w'' w1.heap.size b o ns (i+1)∧Below w1.heap.size w' w''):=fun w' hb'=>ax4 ns i hlt w1.heap.size b o w' (hat.stays jk hb') (ajl.below hb') (uh Uw _ (List.getElem_mem hlt)) (uh HEE) (by omega)
   have HS2:=hide (uh Gi i hlt)
   have HG2:Hid (((Bh ns i).1 != 0)=false->∀j,j<i+1->((Bh ns j).1 != 0)=false):=fun h j hj=>by
    by_cases e:j=i
    ·subst e;exact h
    ·exact uh jo j (by omega)
   have hlt':(i:Int)<(ns.length:Int):=by omega
   have hi0:(0:Int)<=(i:Int):=by omega
   have yw:=hide hlt
   generalize Bh ns i=nf at an4 HS2 HG2
   obtain⟨f1,f2⟩:=nf
   simp only at an4 HS2 HG2
   clear hat aze hxb I7 hb ajl hbw hvl Gi Ox HNF HEE HAT H1
   go_wp2_with fail
   refine(uh HNS).mono ?_
   rintro e9 w2 ⟨sb,vb,ov,D,C,L,N,rfl,hsc,hN,_⟩
   have HC9:=hide (uh an4 sb vb ov D C L N w2 hsc hN)
   clear hsc hN HNS an4 k1
   by_cases hf:f1=0
   ·have d1:(f1 != 0)=false:=by simp[hf]
    have d2:(f1 == 0)=true:=by simp[hf]
    have Gy:=hide (uh HG2 d1)
    clear HG2 HS2
    subst hf
    go_wp2_with fail
    refine(uh HC9).mono ?_
    rintro e9 w3 ⟨rfl,hb3⟩
    have HB3:=hide hb3
    have Vd:=hide (uh ato w3 hb3)
    clear hb3 HC9 ato
    go_wp2_with fail
    refine(uh Vd).mono ?_
    rintro e9 w4 ⟨rfl,hl4,hb4⟩
    have HL4:=hide hl4
    have HB4:Hid (Below w1.heap.size w1 w4):=((uh HB).trans ((uh HB3).mono (uh HB).size)).trans hb4
    clear hl4 hb4 Vd
    go_wp2
    go_roundg (ns.length-(i+1))
    case measure =>
     have h8:=uh yw
     have h9:=uh HG
     omega
    case rel=>exact⟨i+1,uh yw,rfl,by go_num,uh Gy,uh HB4,uh HL4⟩
   ·have d1:(f1 != 0)=true:=by simp[hf]
    have d2:(f1 == 0)=false:=by simp[hf]
    have HR:=hide (uh HS2 d1 (uh jo))
    clear HG2 HS2 hf ato
    go_wp2_with fail
    refine(uh HC9).mono ?_
    rintro e9 w3 ⟨rfl,hb3⟩
    have HF:Hid (Below w.heap.size w w3):=(uh HBW).trans (hb3.mono (uh HBW).size)
    clear hb3 HC9
    go_wp2
    go_ret3
    exact⟨Qe (uh HR),uh HF⟩
end Go.Proofs.YtflcnhfakcgkeaaGreat
