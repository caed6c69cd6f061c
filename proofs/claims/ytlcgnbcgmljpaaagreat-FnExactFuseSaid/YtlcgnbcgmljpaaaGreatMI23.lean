import Derived.Test.YtlcgnbcgmljpaaaGreatFB12
import Derived.Deep.RegionHeld3
namespace Go.Proofs.YtlcgnbcgmljpaaaGreat
open Go.RowKit
set_option linter.unusedSimpArgs false
set_option linter.unusedVariables false
set_option maxRecDepth 20000 in
set_option maxHeartbeats 4000000 in
theorem aou (ks:List ak) (v:Value) (b0 o0:Nat) (w:World) (hm:bf 7 160 ni 0 w v ks) (hb0:ks≠[]->∃n c,v=.slice (some ⟨b0,o0,none⟩) n c) :
  Calls Tryz.prog 29 #[.agg #[v]] w (ap2 ks b0 o0 w (Gv ks)):=by
 obtain⟨ma,mc,rfl⟩:=hm.shape
 have hml:=hm.Fz
 have HM:=hide hm
 have HB0:=hide hb0
 have hA:Below w.heap.size w (w.alloc (.cells #[.slice ma ks.length mc] 28)):=(Below.refl _ _).alloc (Nat.le_refl _) _
 have HR:Hid (Gv ks=(decide (ks.length<=200)&&(List.range ks.length).all (Qo ks))):=rfl
 have Kt:=jl w #[.slice ma ks.length mc] 28
 have HA:=hide hA
 have HBK:=hide Kt
 clear hm hb0
 generalize Gv ks=R at *
 by_cases h2:ks.length<=200
 case neg =>
  have e1:decide (200<(ks.length:Int))=true:=decide_eq_true (by omega)
  have HF:Hid (R=false):=(uh HR).trans (by rw[decide_eq_false h2,Bool.false_and])
  clear HR h2
  go_enter Tryz.func29,Tryz.ntmps29
  go_wp2
  go_ret
  rw[uh HF]
  exact⟨(fun _=>rfl),(fun h=>by cases h),uh HA⟩
 have e1:decide (200<(ks.length:Int))=false:=decide_eq_false (by omega)
 have HR2:Hid (R=(List.range ks.length).all (Qo ks)):=(uh HR).trans (by rw[decide_eq_true h2,Bool.true_and])
 have hmm:=@run_makeMap Tryz.prog
 have hA2:Below (w.heap.size+1) (w.alloc (.cells #[.slice ma ks.length mc] 28)) ((w.alloc (.cells #[.slice ma ks.length mc] 28)).alloc (.map #[] 0)):=(Below.refl _ _).alloc (by simp) _
 have auu:Hid (au ((w.alloc (.cells #[.slice ma ks.length mc] 28)).alloc (.map #[] 0)) w.heap.size 28 #[.slice ma ks.length mc]):=Kt.below hA2 (by omega)
 have k0:=(uh auu).cell (i:=0) (v:=.slice ma ks.length mc) rfl
 have hz1:(w.alloc (.cells #[.slice ma ks.length mc] 28)).heap.size=w.heap.size+1:=by simp
 have Xf:Hid (Ba ((w.alloc (.cells #[.slice ma ks.length mc] 28)).alloc (.map #[] 0)) (w.heap.size+1) 0 (fun _=>none)):=by
  have h9:Ba ((w.alloc (.cells #[.slice ma ks.length mc] 28)).alloc (.map #[] 0)) (w.alloc (.cells #[.slice ma ks.length mc] 28)).heap.size 0 (fun _=>none):=Bv.made _
  rw[hz1] at h9
  exact h9
 have HW1:Hid (Below w.heap.size w ((w.alloc (.cells #[.slice ma ks.length mc] 28)).alloc (.map #[] 0))):=hA.trans (hA2.mono (by omega))
 have HZ2:Hid (w.heap.size+2<=((w.alloc (.cells #[.slice ma ks.length mc] 28)).alloc (.map #[] 0)).heap.size):=by refine hide ?_;simp
 clear hA Kt hA2 hz1 HR HBK
 go_enter Tryz.func29,Tryz.ntmps29
 go_wp2
 generalize (w.alloc (.cells #[.slice ma ks.length mc] 28)).alloc (.map #[] 0)=w1 at *
 clear hmm k0
 go_loopg [3,15] ks.length (fun gm pv iv wr=>∃(i:Nat) (pl:List Nat) (f:ByteArray->Option Value),i<=ks.length∧gm=ks.length-i∧iv=.int .i64 i∧pl.length=i∧(∀j,j<i->Qo ks j=true)∧au wr w.heap.size 28 #[.slice ma ks.length mc]∧dw X7 wr (w.heap.size+2) pv pl∧Ba wr (w.heap.size+1) i f∧(∀s,f s=none↔∀j (hj:j<ks.length),j<i->ks[j].name≠s)∧(∀s u,f s=some u->∃b,u=.pointer (some ⟨b,0,none⟩))∧EP (fun b=>New (w.heap.size+2) wr.heap.size b∧pv.ownBlock≠some b) wr ks b0 o0 pl (Gu ks i) (Jp ks i) (J5 ks i)∧EX (fun b=>New (w.heap.size+2) wr.heap.size b∧pv.ownBlock≠some b) wr w ks b0 o0 pl∧(∀x,x∈Jp ks i->x<=1000*i)∧Below w.heap.size w wr∧w.heap.size+2<=wr.heap.size)
 case atStart =>
  refine⟨0,[],fun _=>none,Nat.zero_le _,by omega,rfl,rfl,fun j hj=>absurd hj (Nat.not_lt_zero _),uh auu,dw.nil _ _,uh Xf,?_,?_,?_,(fun i h=>absurd h (Nat.not_lt_zero _)),?_,uh HW1,uh HZ2⟩
  ·intro s
   exact⟨fun _ j hj h=>absurd h (Nat.not_lt_zero _),fun _=>rfl⟩
  ·intro s u h
   cases h
  ·exact⟨rfl,rfl,rfl,Nat.zero_le _,fun j h=>absurd h (Nat.not_lt_zero _),(fun x hx=>by cases hx),(fun x hx=>by cases hx),(fun x hx=>by cases hx),fun j h h'=>absurd h' (Nat.not_lt_zero _)⟩
  ·intro x hx
   cases hx
 case round =>
  clear auu Xf HW1 HZ2
  obtain⟨i,pl,f,hi,hg,rfl,hpl,hok,hbk,hown,hmap,hfn,hfs,hep,hex,hrb,hbw,hzr⟩:=hrel
  rename World=>wr
  obtain⟨pa,pc,hpv⟩:=hown.slice
  subst hpv
  have HG:=hide hg
  have Hq:=hide hok
  have a04:=hide hbk
  have HOW:=hide hown
  have a05:=hide hmap
  have Ql:=hide hfn
  have Yw:=hide hfs
  have HEP:=hide hep
  have HEX:=hide hex
  have qm:=hide hrb
  have Bj:=hide hbw
  have aby:=hide hpl
  have HZR:=hide hzr
  have k0:=hbk.cell (i:=0) (v:=.slice ma ks.length mc) rfl
  clear hg hok hbk hown hmap hfn hfs hep hex hrb hbw hpl hzr
  by_cases hlt:i<ks.length
  case neg =>
   have e:i=ks.length:=by omega
   subst e
   have HF:Hid (R=true):=(uh HR2).trans (by rw[List.all_eq_true];exact fun j hj=>uh Hq j (List.mem_range.1 hj))
   have Fh:Hid (ap2 ks b0 o0 w true (.returned (.slice pa pl.length pc)) wr):=⟨(fun h=>by cases h),(fun _=>⟨_,pl,rfl,uh aby,(uh HOW).at (E:=X7) (R:=afg) (fun x _=>rfl) (by have:=uh aby;simp[X7];omega),(uh HEP).mono (fun _ _=>trivial),(uh HEX).mono (fun _ _=>trivial)⟩),uh Bj⟩
   go_wp2
   go_ret
   rw[uh HF]
   exact uh Fh
  obtain⟨mn,mcc,hmv⟩:=uh HB0 (fun e=>by subst e;simp at hlt)
  simp only[Value.slice.injEq] at hmv
  have hma:=hmv.1
  clear hmv
  subst hma
  have Yr:(i:Int)<(ks.length:Int):=by omega
  have HPC:=hide (ap0 w _ ks i hlt b0 o0 ks.length mc (.slice pa pl.length pc) pl (Gu ks i) (Jp ks i) (J5 ks i) wr (uh HM) (uh Bj) ((uh HOW).at (E:=X7) (R:=afg) (fun x _=>rfl) (by have:=uh aby;simp[X7];omega)) (uh HEP) (by have:=uh aby;omega))
  obtain⟨a1,a2,a3,a4,a5,a6,hCA⟩:=Zt (uh HM) i hlt
  have HCA:=hide hCA
  have Ei:Hid (Qo ks i=(Qm ks ks[i] (Gu ks i) (J5 ks i)&&newName ks i)):=by
   refine hide ?_
   unfold Qo
   rw[List.getElem?_eq_getElem hlt]
  have uw:Hid (Qo ks i=false->R=false):=fun h=>(uh HR2).trans (by rw[List.all_eq_false];exact⟨i,List.mem_range.2 hlt,by rw[h];decide⟩)
  have Xg:Hid (Qo ks i=true->∀j,j<i+1->Qo ks j=true):=fun h j hj=>by
   by_cases e:j=i
   ·subst e;exact h
   ·exact uh Hq j (by omega)
  have Wq:=hide (aks ks i hlt)
  have HEN:Hid (∀w5 P pb,Qm ks ks[i] (Gu ks i) (J5 ks i)=true->EP P w5 ks b0 o0 pl (Gu ks i) (Jp ks i) (J5 ks i)->PA P w5 b0 o0 i pb (firstTo (Gu ks i) ks[i].aj ks[i].insts ks[i].insts.length) (Jy ks ks[i] (J5 ks i)) (((varsOf ks[i]).length:Int)+yj (Jp ks i) ks[i].insts ks[i].insts.length)->EP P w5 ks b0 o0 (pl++[pb]) (Gu ks (i+1)) (Jp ks (i+1)) (J5 ks (i+1))∧∀x,x∈Jp ks (i+1)->x<=1000*(i+1)):=fun w5 P pb h1 h3 h4=>h3.next hlt (uh aby) h2 (uh qm) h1 h4
  clear hCA
  generalize hpb:Qm ks ks[i] (Gu ks i) (J5 ks i)=bp at *
  cases bp
  ·have HF:Hid (R=false):=uh uw ((uh Ei).trans (Bool.false_and _))
   clear uw Xg Ei HEN hpb
   go_wp2_with fail
   refine(uh HPC).mono ?_
   rintro e w2 ⟨hq,_,hb2⟩
   have hq':=hq rfl
   subst hq'
   have HB2:=hide ((uh Bj).trans (hb2.mono (uh Bj).size))
   clear hb2 hq
   go_wp2
   go_ret
   rw[uh HF]
   exact⟨(fun _=>rfl),(fun h=>by cases h),uh HB2⟩
  go_wp2_with fail
  refine(uh HPC).mono ?_
  rintro e w2 ⟨_,hq,hb2⟩
  obtain⟨pb,rfl,hPA,hPX⟩:=hq rfl
  have HPA:=hide hPA
  have HPX:=hide hPX
  clear hPX
  have hB2:Below w.heap.size w w2:=(uh Bj).trans (hb2.mono (uh Bj).size)
  have HB2:=hide hB2
  have ajs:=hide hb2
  obtain⟨pmb,piv,pfa,pfc,pbv,hpk,_⟩:=hPA
  have q0:=hpk.cell (i:=0) (v:=.pointer (some ⟨b0,o0+i*7,none⟩)) rfl
  have c0:=((uh HCA).stays hB2).c0
  have hnl:ks[i].name.size<=maxLen:=by have:=(uh HCA).name;unfold Len at this;unfold maxLen;omega
  have auv:=(uh a05).below hb2 (uh a05).lt
  have hlk:=auv.look Tryz.underlying9 Tryz.underlying89 (ase w2) hnl
  have a4x:=hide auv
  clear hb2 hB2 hq auv hpk
  cases hfx:f ks[i].name with
  | some u =>
   obtain⟨ub,rfl⟩:=uh Yw _ _ hfx
   have hnn:newName ks i=false:=by
    cases hh:newName ks i
    ·rfl
    ·have h9:=((uh Ql) ks[i].name).2 ((uh Wq).1 hh)
     rw[hfx] at h9
     cases h9
   have HF:Hid (R=false):=uh uw ((uh Ei).trans (by rw[hnn,Bool.and_false]))
   rw[hfx,Option.getD_some] at hlk
   clear uw Xg Ei HEN hpb hnn hfx
   generalize ks[i].name=nm at *
   go_wp2
   go_ret
   rw[uh HF]
   exact⟨(fun _=>rfl),(fun h=>by cases h),uh HB2⟩
  | none =>
   have hnn:newName ks i=true:=(uh Wq).2 (((uh Ql) ks[i].name).1 hfx)
   have Dp:=hide (uh Xg ((uh Ei).trans (by rw[hnn];rfl)))
   rw[hfx,Option.getD_none] at hlk
   obtain⟨w3,hst,hM3,hg3⟩:=(uh a4x).store Tryz.underlying9 Tryz.underlying89 (by unfold maxLen;omega) hnl hfx (.pointer (some ⟨pb,0,none⟩))
   have HM3:=hide (hM3 (Yg f ks[i].name (.pointer (some ⟨pb,0,none⟩))) (acj _ _ _) (fun x hx=>aaj _ _ _ x hx))
   have hblk3:∀b,b<w2.heap.size->b≠w.heap.size+1->w3.heap[b]?=w2.heap[b]?:=fun b hb hne=>hg3.block b hb (by simpa using hne)
   have a4y:Hid (∀s,Yg f ks[i].name (.pointer (some ⟨pb,0,none⟩)) s=none↔∀j (hj:j<ks.length),j<i+1->ks[j].name≠s):=fun s=>by
    by_cases e:s=ks[i].name
    ·subst e
     rw[acj]
     exact⟨(fun h=>by cases h),fun h=>absurd rfl (h i hlt (by omega))⟩
    ·rw[aaj _ _ _ s e,uh Ql s]
     constructor
     ·intro h j hj hji
      by_cases e2:j=i
      ·subst e2;exact fun h9=>e h9.symm
      ·exact h j hj (by omega)
     ·intro h j hj hji
      exact h j hj (by omega)
   have a4z:Hid (∀s u,Yg f ks[i].name (.pointer (some ⟨pb,0,none⟩)) s=some u->∃b,u=.pointer (some ⟨b,0,none⟩)):=fun s u h=>by
    by_cases e:s=ks[i].name
    ·subst e
     rw[acj,Option.some.injEq] at h
     exact⟨pb,h.symm⟩
    ·rw[aaj _ _ _ s e] at h
     exact uh Yw s u h
   generalize Yg f ks[i].name (.pointer (some ⟨pb,0,none⟩))=f2 at *
   have hsz2:wr.heap.size<=w2.heap.size:=(uh ajs).size
   have hsz3:w2.heap.size<=w3.heap.size:=hg3.size
   have hwr2:w.heap.size+2<=wr.heap.size:=uh HZR
   have Y4:=hide ((uh HOW).Ai (w':=w3) (fun b hb=>by
    have h9:=(uh HOW).lt b hb
    exact(hblk3 b (by omega) (by omega)).trans ((uh ajs).block b h9.2)))
   have HA3:Hid (Below w3.heap.size w3 (w3.alloc (.cells #[.pointer (some ⟨pb,0,none⟩)] 90))):=(Below.refl _ _).alloc (Nat.le_refl _) _
   have HO4:=hide ((uh Y4).below (uh HA3))
   have hpn:=uh aby
   have hpl2:pl.length<=200:=by omega
   have HB3:Hid (∀b,b<w2.heap.size->b≠w.heap.size+1->w3.heap[b]?=w2.heap[b]?):=hblk3
   have HW3:Hid (Below w.heap.size w w3):=(uh HB2).trans ⟨hg3.os,hg3.tape,hg3.output,hg3.size,fun k hk=>hblk3 k (by omega) (by omega)⟩
   clear hpn hblk3 hg3 hM3 hfx hnn Y4 uw Xg Ei
   generalize a06:ks[i].name=nm at *
   have a6q:=hide a06
   clear a06
   go_wp2_with (at_builtin;go_must (refine l9 X7 _ rfl _ _ rfl (w.heap.size+2) _ pl rfl (uh HO4) w3.heap.size pb rfl (fun j u hu=>by rw[World.cell?_alloc_at _ _ _ _ rfl];simpa[X7] using hu) (by simp[X7];omega) (by simp;omega) ?_))
   intro v' w5 Bh hg5 Eh
   have Sr:=(uh HOW).lt
   have hsz5:w3.heap.size+1<=w5.heap.size:=by have h9:=hg5.size;simp at h9;omega
   have hblk5:∀b,b<w3.heap.size->(Value.slice pa pl.length pc).ownBlock≠some b->w5.heap[b]?=w3.heap[b]?:=fun b hb hne=>(hg5.block b (by simp;omega) (fun e=>hne e.symm)).trans ((uh HA3).block b hb)
   have hgo:∀b,b<w2.heap.size->b≠w.heap.size+1->(Value.slice pa pl.length pc).ownBlock≠some b->w5.heap[b]?=w2.heap[b]?:=fun b hb h1 h2=>(hblk5 b (by omega) h2).trans (uh HB3 b hb h1)
   have hup:∀b,v'.ownBlock=some b->(Value.slice pa pl.length pc).ownBlock=some b∨w3.heap.size+1<=b:=fun b hb=>by
    have h9:=Eh b hb
    simpa using h9
   have a07:EP (fun b=>New (w.heap.size+2) w5.heap.size b∧v'.ownBlock≠some b) w5 ks b0 o0 pl (Gu ks i) (Jp ks i) (J5 ks i):=by
    refine((((uh HEP).o8 (Ae.of_below (uh ajs))).o8 (w':=w5) ⟨by omega,fun b h hb=>hgo b hb (by have:=h.1.1;omega) h.2⟩)).mono (fun b h=>⟨⟨h.1.1,by have:=h.1.2;omega⟩,fun e=>?_⟩)
    rcases hup b e with h9|h9
    ·exact h.2 h9
    ·have:=h.1.2;omega
   have a08:=((uh HPA).o8 (w':=w5) ⟨by omega,fun b h hb=>hgo b hb (by have:=h.1;omega) (fun e=>by have:=(Sr b e).2;have:=h.1;omega)⟩).mono (Q:=fun b=>New (w.heap.size+2) w5.heap.size b∧v'.ownBlock≠some b) (fun b h=>⟨⟨by have:=h.1;omega,by have:=h.2;omega⟩,fun e=>by
    rcases hup b e with h9|h9
    ·have:=(Sr b h9).2;have:=h.1;omega
    ·have:=h.2;omega⟩)
   have a09:EX (fun b=>New (w.heap.size+2) w5.heap.size b∧v'.ownBlock≠some b) w5 w ks b0 o0 pl:=by
    refine((((uh HEX).o8 (Ae.of_below (uh ajs))).o8 (w':=w5) ⟨by omega,fun b h hb=>hgo b hb (by have:=h.1.1;omega) h.2⟩)).mono (fun b h=>⟨⟨h.1.1,by have:=h.1.2;omega⟩,fun e=>?_⟩)
    rcases hup b e with h9|h9
    ·exact h.2 h9
    ·have:=h.1.2;omega
   have a1a:=((uh HPX).o8 (w':=w5) ⟨by omega,fun b h hb=>hgo b hb (by have:=h.1;omega) (fun e=>by have:=(Sr b e).2;have:=h.1;omega)⟩).mono (Q:=fun b=>New (w.heap.size+2) w5.heap.size b∧v'.ownBlock≠some b) (fun b h=>⟨⟨by have:=h.1;omega,by have:=h.2;omega⟩,fun e=>by
    rcases hup b e with h9|h9
    ·have:=(Sr b h9).2;have:=h.1;omega
    ·have:=h.2;omega⟩)
   have qp:=hide (a09.next (uh aby) a1a)
   clear a09 a1a
   obtain⟨n1,n2⟩:=uh HEN w5 _ pb (by simp) a07 a08
   have HN1:=hide n1
   have HN2:=hide n2
   have a5a:Hid (au w5 w.heap.size 28 #[.slice (some ⟨b0,o0,none⟩) ks.length mc]):=(hgo w.heap.size (by omega) (by omega) (fun e=>by have:=(Sr _ e).1;omega)).trans ((uh a04).below (uh ajs) (uh a04).lt)
   have HM5:=hide ((uh HM3).block (w':=w5) (hblk5 _ (uh HM3).lt (fun e=>by have:=(Sr _ e).1;omega)))
   have HW5:Hid (Below w.heap.size w w5):=(uh HW3).trans ⟨hg5.os.trans (uh HA3).os,hg5.tape.trans (uh HA3).tape,hg5.output.trans (uh HA3).output,by omega,fun k hk=>hblk5 k (by omega) (fun e=>by have:=(Sr k e).1;omega)⟩
   have Nw:=hide Bh
   have HZ5:Hid (w.heap.size+2<=w5.heap.size):=by refine hide ?_;omega
   obtain⟨va,vc,hv'⟩:=Bh.slice
   subst hv'
   clear Bh hg5 Eh Sr hblk5 hgo hup a07 a08 n1 n2
   go_wp2
   go_roundg (ks.length-(i+1))
   case measure=>have:=uh HG;omega
   case rel=>exact⟨i+1,pl++[pb],f2,by omega,rfl,by go_num,by rw[List.length_append,uh aby];rfl,uh Dp,uh a5a,uh Nw,uh HM5,uh a4y,uh a4z,uh HN1,uh qp,uh HN2,uh HW5,uh HZ5⟩
theorem axh {w:World} {v:Value} {ks:List ak} (h:bf 7 160 ni 0 w v ks):∃b0 o0,ks≠[]->∃n c,v=.slice (some ⟨b0,o0,none⟩) n c:=by
 by_cases e:ks=[]
 ·exact⟨0,0,fun h=>absurd e h⟩
 ·obtain⟨a,cap,rfl,_,_,hx⟩:=h
  obtain⟨b,o,cs,rfl,_⟩:=hx 0 (List.length_pos_iff.2 e)
  exact⟨b,o,fun _=>⟨_,_,rfl⟩⟩
set_option maxHeartbeats 1000000 in
theorem adu (ks:List ak) (v:Value) (w:World) (hm:bf 7 160 ni 0 w v ks):Calls Tryz.prog 16 #[.agg #[v]] w (Ans (.bool (Gv ks&&decide (1<=ks.length))) w):=by
 obtain⟨ma,mc,rfl⟩:=hm.shape
 have hml:=hm.Fz
 have hA:Below w.heap.size w (w.alloc (.cells #[.slice ma ks.length mc] 28)):=(Below.refl _ _).alloc (Nat.le_refl _) _
 obtain⟨b0,o0,hb0⟩:=axh hm
 have HP:=hide (aou ks _ b0 o0 _ (hm.stays jm hA) hb0)
 have HA:=hide hA
 clear hm hA hb0
 generalize Gv ks=R at *
 cases R
 ·rw[Bool.false_and]
  go_enter Tryz.func16,Tryz.ntmps16
  go_wp2_with fail
  refine(uh HP).mono ?_
  rintro e w1 ⟨h1,_,hb1⟩
  have h1':=h1 rfl
  subst h1'
  have HB:=hide ((uh HA).trans (hb1.mono (uh HA).size))
  clear hb1 h1
  go_wp2
  go_ret
  exact⟨rfl,uh HB⟩
 ·rw[Bool.true_and]
  go_enter Tryz.func16,Tryz.ntmps16
  go_wp2_with fail
  refine(uh HP).mono ?_
  rintro e w1 ⟨_,h1,hb1⟩
  obtain⟨pv,pl,rfl,hl,hS,_⟩:=h1 rfl
  obtain⟨pa,pc,rfl⟩:=hS.shape
  have HB:=hide ((uh HA).trans (hb1.mono (uh HA).size))
  rw[hl]
  clear hb1 h1 hS hl
  go_wp2
  go_ret
  refine⟨Ep ?_,uh HB⟩
  simp only[decide_eq_decide]
  omega
theorem ae2 (w:World):Calls Tryz.prog 18 #[] w (fun e w'=>e=.returned (.slice (some ⟨w.heap.size,0,none⟩) 2 2)∧au w' w.heap.size 29 aeh∧Below w.heap.size w w'):=by
 have HF:Hid (au (w.alloc (.cells #[.func (.func 30) #[] #[],.func (.func 31) #[] #[]] 29)) w.heap.size 29 aeh∧Below w.heap.size w (w.alloc (.cells #[.func (.func 30) #[] #[],.func (.func 31) #[] #[]] 29))):=hide ⟨Bq rfl,(Below.refl _ _).alloc (Nat.le_refl _) _⟩
 go_enter Tryz.func18,Tryz.ntmps18
 go_wp2
 go_ret
 exact⟨rfl,uh HF⟩
def H8 (ks:List ak) (ts:List BF):List ak:=if (Gv ks&&decide (1<=ks.length))=true then List.zipWith Jf ks ts else []
set_option maxRecDepth 20000 in
set_option maxHeartbeats 4000000 in
theorem ak3 (w:World) (ks:List ak) (ts:List BF) (v:Value) (hsl:bf 7 160 ni 0 w v ks) (hts:(Gv ks&&decide (1<=ks.length))=true->ts.length=ks.length∧∀i (h1:i<ts.length) (h2:i<ks.length),ts[i].wf∧ts[i].flat=ks[i].body∧ts[i].flat.length<=1000000) :
  Calls Tryz.prog 7 #[.agg #[v]] w (MaP w.heap.size (H8 ks ts) w):=by
 obtain⟨a,c,hv⟩:=hsl.shape
 subst hv
 obtain⟨PO,Af⟩:∃PO:Ending->World->Prop,PO=MaP w.heap.size (H8 ks ts) w:=⟨_,rfl⟩
 rw[←Af]
 have Fh:=hide Af
 obtain⟨wA,hwA⟩:∃z,z=(w.alloc (.cells #[.slice a ks.length c] 28)).alloc (.cells #[.slice none 0 0] 28):=⟨_,rfl⟩
 have hA:Below w.heap.size w wA:=by rw[hwA];exact((Below.refl _ _).alloc (Nat.le_refl _) _).alloc (by simp) _
 have b1:au wA w.heap.size 28 #[.slice a ks.length c]:=by rw[hwA];exact Ol (Bq rfl) _
 have b2:au wA (w.heap.size+1) 28 #[.slice none 0 0]:=by rw[hwA];exact Bq (by simp)
 obtain⟨ok,hok⟩:∃z,z=(Gv ks&&decide (1<=ks.length)):=⟨_,rfl⟩
 have qy:Hid (Calls Tryz.prog 16 #[.agg #[.slice a ks.length c]] wA (fun e w2=>e=.returned (.bool ok)∧Hid (Below w.heap.size w w2∧au w2 w.heap.size 28 #[.slice a ks.length c]∧au w2 (w.heap.size+1) 28 #[.slice none 0 0]))):=by
  refine hide ((adu ks _ wA (hsl.stays jm hA)).mono ?_)
  rintro e w2 ⟨rfl,hb⟩
  exact⟨by rw[hok],hide ⟨hA.trans (hb.mono hA.size),b1.below hb b1.lt,b2.below hb b2.lt⟩⟩
 have HSL:=hide hsl
 have HTS:=hide hts
 have Hq:=hide hok
 rw[hwA] at qy
 clear Af hsl hts hA b1 b2 hok hwA
 go_enter Tryz.func7,Tryz.ntmps7
 go_wp2_with fail
 refine(uh qy).mono ?_
 rintro e w2 ⟨rfl,HW⟩
 have m0:=(uh HW).2.1.cell (i:=0) (v:=.slice a ks.length c) rfl
 have r0:=(uh HW).2.2.cell (i:=0) (v:=.slice none 0 0) rfl
 have z0:=(uh HW).2.2.free 0
 cases ok
 ·have zu:Hid (PO (.returned (.agg #[.slice none 0 0])) (w2.setCell ⟨w.heap.size+1,0,none⟩ (.slice none 0 0))∧(w2.setCell ⟨w.heap.size+1,0,none⟩ (.slice none 0 0)).cell? ⟨w.heap.size+1,0,none⟩=some (.slice none 0 0)):=by
   obtain⟨hb,_,hbx⟩:=uh HW
   have h9:H8 ks ts=[]:=by unfold H8;rw[←uh Hq];rfl
   rw[uh Fh,h9]
   exact hide ⟨⟨_,[],rfl,uf.nil _ _ _ _,hb.setCell (Nat.le_succ _) _⟩,(hbx.set 0 (.slice none 0 0)).cell (i:=0) rfl⟩
  go_wp2
  have f9:=(uh zu).2
  exact bodyPost_ret (v:=.agg #[.slice none 0 0]) (by simp[results,Tryz.results7,go_sem,f9]) rfl (uh zu).1
 ·have HF:Hid (∀w3,Below w2.heap.size w2 w3->Calls Tryz.prog 18 #[] w3 (fun e w4=>∃pb,e=.returned (.slice (some ⟨pb,0,none⟩) 2 2)∧Hid (au w4 pb 29 aeh∧Below w2.heap.size w2 w4)∧w4.cell? ⟨w.heap.size,0,none⟩=some (.slice a ks.length c))):=by
   refine hide (fun w3 h3=>(ae2 w3).mono ?_)
   rintro e w4 ⟨rfl,hp,hb⟩
   have h24:Below w2.heap.size w2 w4:=h3.trans (hb.mono h3.size)
   exact⟨_,rfl,hide ⟨hp,h24⟩,((uh HW).2.1.below h24 (uh HW).2.1.lt).cell (i:=0) rfl⟩
  have HC:Hid (∀w4 pb,au w4 pb 29 aeh∧Below w2.heap.size w2 w4->Calls Tryz.prog 17 #[.agg #[.slice a ks.length c],.slice (some ⟨pb,0,none⟩) 2 2] w4 (fun e w5=>∃x y z,e=.returned (.agg #[.slice x y z])∧Hid ((∃bs,uf uj oh w.heap.size w5 (.slice x y z) (H8 ks ts) bs)∧Below w2.heap.size w2 w5)∧w5.cell? ⟨w.heap.size,0,none⟩=some (.slice a ks.length c)∧w5.cell? ⟨w.heap.size+1,0,none⟩=some (.slice none 0 0)∧w5.frozen? ⟨w.heap.size+1,0,none⟩=false)):=by
   have hq:=uh HTS (uh Hq).symm
   refine hide (fun w4 pb h4=>(ar8 w4 ks ts _ ((uh HSL).stays jm ((uh HW).1.trans (h4.2.mono (uh HW).1.size))) pb h4.1 hq.1 hq.2).mono ?_)
   rintro e w5 ⟨v9,bs,rfl,hm,hb⟩
   obtain⟨x,y,hv⟩:=hm.slice
   subst hv
   have Jd:Below w2.heap.size w2 w5:=h4.2.trans (hb.mono h4.2.size)
   have hbx:=(uh HW).2.2.below Jd (uh HW).2.2.lt
   have h9:H8 ks ts=List.zipWith Jf ks ts:=by unfold H8;rw[←uh Hq];rfl
   exact⟨_,_,_,rfl,hide ⟨⟨bs,by rw[h9];exact hm.ar9 (Nat.le_trans (uh HW).1.size h4.2.size)⟩,Jd⟩,((uh HW).2.1.below Jd (uh HW).2.1.lt).cell (i:=0) rfl,hbx.cell (i:=0) rfl,hbx.free 0⟩
  go_wp2
  go_region_held3 (fun w'=>w'.cell? ⟨w.heap.size,0,none⟩=some (.slice a ks.length c)) (go_keep) (first|(go_at_call 17;refine(uh HC _ _ (uh HPX)).mono ?_;rintro e w5 ⟨x,y,z,rfl,HM,n0,n1,n2⟩)|(go_at_call 18;refine(uh HF _ (by first|exact Below.refl _ _|exact(Below.refl _ _).drew)).mono ?_;rintro e w4 ⟨pb,rfl,HPX,k0⟩))
  have zu:Hid (PO (.returned (.agg #[.slice x y z])) (w5.setCell ⟨w.heap.size+1,0,none⟩ (.slice x y z))∧(w5.setCell ⟨w.heap.size+1,0,none⟩ (.slice x y z)).cell? ⟨w.heap.size+1,0,none⟩=some (.slice x y z)):=by
   obtain⟨⟨bs,hmr⟩,Jd⟩:=uh HM
   have hbx:=(uh HW).2.2.below Jd (uh HW).2.2.lt
   rw[uh Fh]
   refine hide ⟨⟨_,bs,rfl,hmr.frC (fun b hb=>Below.heap_setCell _ _ _ _ (fun e9=>au.Tn hbx (C9.typ zy hmr.rowT) (by decide) (by simp only at e9;first|(rw[←e9];exact hb)|(rw[e9];exact hb)))) (by simp[World.setCell]),((uh HW).1.trans (Jd.mono (uh HW).1.size)).setCell (Nat.le_succ _) _⟩,(hbx.set 0 (.slice x y z)).cell (i:=0) rfl⟩
  clear n0 n1 n2 HM HC HF
  go_wp2
  have f9:=(uh zu).2
  exact bodyPost_ret (v:=.agg #[.slice x y z]) (by simp[results,Tryz.results7,go_sem,f9]) rfl (uh zu).1
end Go.Proofs.YtlcgnbcgmljpaaaGreat
