import Derived.Test.YtlcgnbcgmljpaaaGreatMI12
namespace Go.Proofs.YtlcgnbcgmljpaaaGreat
open Go.RowKit
set_option linter.unusedSimpArgs false
set_option linter.unusedVariables false
theorem Vw (k:ak) (H:List ByteArray):(Tt k H).size=(varsOf k).length:=by unfold Tt;simp
theorem X8 (k:ak) (H:List ByteArray) (i:Nat) (hi:i<(varsOf k).length):(Tt k H)[i]?=some (.int .i64 (cnt k H i)):=by unfold Tt;simp[hi]
theorem aqw (k:ak) (H H':List ByteArray) (q:Nat) (hq:q<(varsOf k).length) (h1:∀i,i≠q->cnt k H' i=cnt k H i):(Tt k H).setIfInBounds q (.int .i64 (cnt k H' q))=Tt k H':=by
 apply Array.ext_getElem?
 intro i
 rw[Array.getElem?_setIfInBounds,Vw]
 by_cases e:q=i
 ·subst e
  rw[if_pos rfl,if_pos hq,X8 k H' q hq]
 ·rw[if_neg e]
  by_cases hi:i<(varsOf k).length
  ·rw[X8 k H i hi,X8 k H' i hi,h1 i (fun h=>e h.symm)]
  ·rw[Array.getElem?_eq_none (by rw[Vw];omega),Array.getElem?_eq_none (by rw[Vw];omega)]
theorem cnt_le (k:ak) (H:List ByteArray) (q:Nat):cnt k H q<=H.length:=List.countP_le_length
theorem BS.aqx {X:BD} (hE:BE X) {w:World} {H H':List ByteArray} {nx q:Nat} (h:BS X w H nx) (hq:q<(varsOf X.k).length) (h1:∀i,i≠q->cnt X.k H' i=cnt X.k H i) {v:Int} (hv:v=(cnt X.k H' q:Int)):BS X (w.setCell ⟨X.hb,q,none⟩ (.int .i64 v)) H' nx∧But (Og X) w (w.setCell ⟨X.hb,q,none⟩ (.int .i64 v)):=by
 subst hv
 obtain⟨gv,g1,g2,g3⟩:=h.gl
 have hb:But (Og X) w (w.setCell ⟨X.hb,q,none⟩ (.int .i64 (cnt X.k H' q:Int))):=(But.refl _ _).Vu (by simp[Og]) _
 have hh:=h.hl.set q (.int .i64 (cnt X.k H' q:Int))
 rw[aqw X.k H H' q hq h1] at hh
 exact⟨⟨h.old.trans (hb.below _ h.old.size (fun k hk=>(hE.inS k hk).1)),Nat.le_trans h.lo hb.size,h.nxl,h.bl.other hE.bh _,hh,gv,g1,g2,g3.other (Ne.symm hE.hg) _⟩,hb⟩
theorem afy {ks:List ak} {k:ak} {f:Nat} {ss:List dh} {H:List ByteArray} {d kd:Int} {t:PL} {el:dh} {r:List dh} (h:Xd ks k f ss H d kd=some (t,el,r)):r.length<=ss.length:=by
 unfold Xd at h
 split at h
 ·rename_i t' el' r' hl
  split at h
  ·simp only[Option.some.injEq,Prod.mk.injEq] at h
   obtain⟨rfl,rfl,rfl⟩:=h
   have:=(Ye ks k _ _ _ _ _ _ hl).1
   rw[this,List.length_append,List.length_cons]
   omega
  ·cases h
 ·cases h
def chF (ks:List ak) (k:ak) (f:Nat) (s:dh) (ss:List dh) (H:List ByteArray) (d:Int):Option (PL × List dh) :=
 if iy (varsOf k) s.name<0 then none else match Xd ks k f ss (s.name::H) (d+1) 5 with
  | none=>none
  | some (a,el,r1)=>match Xd ks k f r1 (s.name::H) (d+1) 6 with
   | none=>none
   | some (b,en,r2)=>some (.br s a el b en .nil,r2)
set_option maxRecDepth 20000 in
set_option maxHeartbeats 4000000 in
theorem aqy (X:BD) (hE:BE X) (hkb:∀x,x∈X.known->0<=x∧x<=400001) (f:Nat) (hL:Sm X f) (H:List ByteArray) (nx:Nat) (d:Int) (w:World) (hS:BS X w H nx) (hf:X.k.body.length-nx<f) (hd:0<=d) (hd2:d<=20) (hH:(H.length:Int)<=d) (s:dh) (sb so:Nat) (ov cv av:Value) (hA:SA X.Wm sb so s ov cv av) :
  Calls Tryz.prog 141 #[.pointer (some ⟨X.bb,0,none⟩),.pointer (some ⟨sb,so,none⟩),.int .i64 d] w (Jo X H w (chF X.ks X.k f s (X.k.body.drop nx) H d)):=by
 have hx':s.name.size<=maxLen:=by have:=hA.name;unfold Len at this;unfold maxLen;omega
 obtain⟨b0,b1,b2,b3,p0,p1,p2,c1,c4,c6⟩:=hS.cells hE
 have s1:=(hA.stays rfl (hS.Pj hE)).c1
 have HE:=hide hE
 have HKK:Hid (∀s,0<=lg X.k.insts X.known s∧lg X.k.insts X.known s<=400001):=fun s=>Pz X.known 400001 (by omega) hkb _
 have hbd:=O6 (varsOf X.k) s.name
 have hvl:=hE.vl
 clear b1 b3 p0 p2 c1 c4 c6
 by_cases hp:iy (varsOf X.k) s.name<0
 ·have hlk:∀n,(Instr.lookup 93 (.map (some X.mb)) (.string s.name) true).run Tryz.prog (w.drewN n)=.ok (.tuple #[.int .i64 0,.bool false]) (w.drewN n):=fun n =>
   Bv.miss (w:=w.drewN n) ((hE.map.below hS.old hE.map.lt).block rfl) Tryz.underlying9 Tryz.underlying93 (Qb _) hx' (Yf _ _ hp)
  rw[show chF X.ks X.k f s (X.k.body.drop nx) H d=none from if_pos hp]
  have HO:=hide hS.old
  clear hE hS hp hA hL hf hbd hH hkb HE
  go_enter Tryz.func141,Tryz.ntmps141
  go_wp2_with fail
  go_quiet ((fail))
  go_wp2
  go_ret
  exact⟨rfl,below_drewN (uh HO) _⟩
 obtain⟨q,hq⟩:=Int.eq_ofNat_of_zero_le (show 0<=iy (varsOf X.k) s.name by omega)
 have hqn:q<(varsOf X.k).length:=by omega
 have hlk:∀n,(Instr.lookup 93 (.map (some X.mb)) (.string s.name) true).run Tryz.prog (w.drewN n)=.ok (.tuple #[.int .i64 q,.bool true]) (w.drewN n):=fun n=>by
  have h9:=aaf (varsOf X.k) s.name (by omega)
  rw[hq] at h9
  exact Bv.hit (w:=w.drewN n) ((hE.map.below hS.old hE.map.lt).block rfl) Tryz.underlying9 Tryz.underlying93 (Qb _) hx' h9
 have HCH:Hid (chF X.ks X.k f s (X.k.body.drop nx) H d=match Xd X.ks X.k f (X.k.body.drop nx) (s.name::H) (d+1) 5 with
  | none=>none
  | some (a,el,r1)=>match Xd X.ks X.k f r1 (s.name::H) (d+1) 6 with
   | none=>none
   | some (b,en,r2)=>some (.br s a el b en .nil,r2)):=if_neg hp
 generalize chF X.ks X.k f s (X.k.body.drop nx) H d=R at *
 have hcl:=cnt_le X.k H q
 have hce:∀i,i≠q->cnt X.k (s.name::H) i=cnt X.k H i:=fun i hi=>by
  rw[ajl,hq,if_neg (by omega),Nat.add_zero]
 have hcq:cnt X.k (s.name::H) q=cnt X.k H q+1:=by rw[ajl,hq,if_pos rfl]
 have Y5:=hide hce
 have HCQ:=hide hcq
 have HQ:=hide hq
 have Ku:=hide hS
 have HLO:=hide hS.lo
 have HBR:=hide (fun kd nx' w' (h1:BS X w' (s.name::H) nx') (h2:X.k.body.length-nx'<f)=>aqv X hE f hL (s.name::H) nx' (d+1) kd w' h1 h2 (by omega) (by omega) (by rw[List.length_cons];omega))
 have hcb:cnt X.k H q<=20:=by omega
 have HHH:=hide hH
 clear hE hS hp hA hL hbd hce hcq hq hcl hkb hH
 go_enter Tryz.func141,Tryz.ntmps141
 go_wp2_with fail
 go_quiet ((fail))
 have HB1:Hid (Below w.heap.size w (w.drewN nq)):=jw _ _
 have Bd:=hide ((uh Ku).stays (uh HB1))
 generalize w.drewN nq=w1 at *
 have h0:=(uh Bd).held q hqn
 have hz:=(uh Bd).hl.free q
 have b2':=((uh Bd).cells (uh HE)).b2
 obtain⟨m1,m2⟩:=(uh Bd).aqx (uh HE) (H':=s.name::H) hqn (uh Y5) (v:=(cnt X.k H q:Int)+1) (by rw[uh HCQ];rfl)
 have HBC:=hide (uh HBR 5 nx _ m1 hf)
 have afq:Hid (But (Og X) w (w1.setCell ⟨X.hb,q,none⟩ (.int .i64 ((cnt X.k H q:Int)+1)))):=(But.of_below (uh HB1)).trans m2
 have hqI:(q:Int)<((varsOf X.k).length:Int):=by omega
 have a4p:=hide (uh afq).size
 clear m1 m2 b0 p1 s1 b2 hlk
 generalize hb5:Xd X.ks X.k f (X.k.body.drop nx) (s.name::H) (d+1) 5=o5 at *
 have zo:=hide hb5
 clear hb5
 cases o5 with
 | none =>
  have e:R=none:=uh HCH
  subst e
  clear HCH
  go_wp2_with fail
  refine(uh HBC).mono ?_
  rintro e w2 ⟨⟨v,rfl⟩,hb2⟩
  have HB2:=hide hb2
  clear hb2
  go_wp2
  go_ret
  exact⟨rfl,uh HB2⟩
 | some q5 =>
  obtain⟨ta,el,r1⟩:=q5
  have aoe:Hid (R=match Xd X.ks X.k f r1 (s.name::H) (d+1) 6 with
   | none=>none
   | some (b,en,r2)=>some (.br s ta el b en .nil,r2)):=uh HCH
  clear HCH
  go_wp2_with fail
  refine(uh HBC).mono ?_
  rintro e w2 ⟨v1,nd1,rfl,⟨hv1,a0j⟩,hn1,hs2,ht2,hr1⟩
  have auh:=hide a0j
  clear a0j
  obtain⟨va,vc,rfl⟩:=hv1.shape
  have hl1:=hv1.Fz
  have hrl:r1.length<=X.k.body.length-nx:=by
   have:=afy (uh zo)
   rwa[List.length_drop] at this
  have aui:=hide (uh HBR 6 _ _ hs2 (by omega))
  rw[←hr1] at aui
  have HV1:=hide hv1
  have HN1:=hide hn1
  have HT2:Hid (But (Og X) w w2):=(uh afq).trans ht2
  clear hv1 hn1 hs2 ht2 hr1 HBC afq b2' h0 hz
  generalize hb6:Xd X.ks X.k f r1 (s.name::H) (d+1) 6=o6 at *
  cases o6 with
  | none =>
   have e:R=none:=uh aoe
   subst e
   clear aoe
   go_wp2_with fail
   refine(uh aui).mono ?_
   rintro e w3 ⟨⟨v,rfl⟩,hb3⟩
   have HB3:=hide hb3
   clear hb3
   go_wp2
   go_ret
   exact⟨rfl,uh HB3⟩
  | some q6 =>
   obtain⟨tb,en,r2⟩:=q6
   have HF:Hid (R=some (.br s ta el tb en .nil,r2)):=uh aoe
   clear aoe hb6
   go_wp2_with fail
   refine(uh aui).mono ?_
   rintro e w3 ⟨v2,nd2,rfl,⟨hv2,a0k⟩,hn2,hs3,ht3,hr2⟩
   have auj:=hide a0k
   clear a0k
   obtain⟨vb,vd,rfl⟩:=hv2.shape
   have hl2:=hv2.Fz
   have b2':=(hs3.cells (uh HE)).b2
   have h0:=hs3.held q hqn
   rw[uh HCQ] at h0
   have hz:=hs3.hl.free q
   obtain⟨m1,m2⟩:=hs3.aqx (uh HE) (H':=H) hqn (fun i hi=>(uh Y5 i hi).symm) (v:=(cnt X.k H q:Int)) rfl
   have hlow:∀b,New w.heap.size w2.heap.size b->b∉Og X:=fun b h hb=>by have:=((uh HE).inS b hb).2;have:=h.1;have:=uh HLO;omega
   have awf:∀b,New w.heap.size w3.heap.size b->b∉Og X:=fun b h hb=>by have:=((uh HE).inS b hb).2;have:=h.1;have:=uh HLO;omega
   have hk2:Ae (New w.heap.size w2.heap.size) w2 (w3.setCell ⟨X.hb,q,none⟩ (.int .i64 (cnt X.k H q:Int))):=(ht3.o8 (fun k hk h=>hlow k h hk)).trans (m2.o8 (fun k hk h=>hlow k h hk))
   have hk3:Ae (New w.heap.size w3.heap.size) w3 (w3.setCell ⟨X.hb,q,none⟩ (.int .i64 (cnt X.k H q:Int))):=m2.o8 (fun k hk h=>awf k h hk)
   have hsz1:w.heap.size<=(w1.setCell ⟨X.hb,q,none⟩ (.int .i64 ((cnt X.k H q:Int)+1))).heap.size:=(uh a4p)
   have hsz2:w.heap.size<=w2.heap.size:=(uh HT2).size
   have hsz3:w2.heap.size<=w3.heap.size:=ht3.size
   have hn1':=jg.mono (Q:=New w.heap.size w2.heap.size) (fun b h=>⟨Nat.le_trans hsz1 h.1,h.2⟩) _ _ (uh HN1)
   have a0l:=jg.mono (Q:=New w.heap.size w3.heap.size) (fun b h=>⟨Nat.le_trans hsz2 h.1,h.2⟩) _ _ hn2
   have vb1:∀b,(Value.slice va nd1.length vc).ownBlock=some b->New w.heap.size w2.heap.size b:=fun b hb=>⟨Nat.le_trans hsz1 (uh auh b hb).1,(uh auh b hb).2⟩
   have vb2:∀b,(Value.slice vb nd2.length vd).ownBlock=some b->New w.heap.size w3.heap.size b:=fun b hb=>⟨Nat.le_trans hsz2 (uh auj b hb).1,(uh auj b hb).2⟩
   have auk:∀b,New w.heap.size w2.heap.size b->New w.heap.size w3.heap.size b:=fun b h=>⟨h.1,Nat.lt_of_lt_of_le h.2 hsz3⟩
   have aul:=hide ((uh HV1).o8 Px hk2 vb1)
   have aum:=hide (jg.mono auk _ _ (jg.o8 hk2 _ _ hn1'))
   have aun:=hide (hv2.o8 Px hk3 vb2)
   have auo:=hide (jg.o8 hk3 _ _ a0l)
   have a2n:=hide (fun b hb=>auk b (vb1 b hb))
   have a2o:=hide vb2
   have a4q:Hid (w3.heap.size<=(w3.setCell ⟨X.hb,q,none⟩ (.int .i64 (cnt X.k H q:Int))).heap.size):=hk3.1
   clear hlow awf hsz1 hsz2 hsz3 hn1' a0l vb1 vb2 auk auh auj
   have Es:=hide m1
   have HT4:Hid (But (Og X) w (w3.setCell ⟨X.hb,q,none⟩ (.int .i64 (cnt X.k H q:Int)))):=((uh HT2).trans ht3).trans m2
   have HR2:=hide hr2
   have e9:((cnt X.k H q+1:Nat):Int)-1=(cnt X.k H q:Int):=by omega
   have e8:(cnt X.k H q:Int)+1-1=(cnt X.k H q:Int):=by omega
   clear hv2 hn2 hs3 ht3 hr2 m1 m2 hk2 hk3 HV1 HN1 HT2
   go_wp2_with fail
   generalize w3.setCell ⟨X.hb,q,none⟩ (.int .i64 (cnt X.k H q:Int))=w4 at *
   have HMA:=hide (X9 X _ 0 ta _ nd1 w4 (uh aul) (uh aum) (uh HKK))
   have HMB:Hid (∀w',Below w4.heap.size w4 w'->Calls Tryz.prog 113 #[.slice vb nd2.length vd] w' (Ans (.int .i64 (tb.cost (lg X.k.insts X.known) 0)) w')):=fun w' hb=>X9 X _ 0 tb _ nd2 w' ((uh aun).stays adt hb) (jg.o8 (Ae.of_below hb) _ _ (uh auo)) (uh HKK)
   have hca:=Rq _ (uh HKK) ta 0 (by omega) (by omega)
   have hcb2:=Rq _ (uh HKK) tb 0 (by omega) (by omega)
   have HMX:Hid (maxS (ta.cost (lg X.k.insts X.known) 0) (tb.cost (lg X.k.insts X.known) 0)=if ta.cost (lg X.k.insts X.known) 0<tb.cost (lg X.k.insts X.known) 0 then tb.cost (lg X.k.insts X.known) 0 else ta.cost (lg X.k.insts X.known) 0):=rfl
   have Ob:Hid (∀w' g,w4.heap.size<=g->g<w'.heap.size->au w' g 206 #[.int .i64 (1+maxS (ta.cost (lg X.k.insts X.known) 0) (tb.cost (lg X.k.insts X.known) 0)),.int .i64 q,.slice va nd1.length vc,.slice vb nd2.length vd]->Below w4.heap.size w4 w'->jg X (New w.heap.size w'.heap.size) w' (.br s ta el tb en .nil) [(204,g)]):=fun w' g hg hgl hbk hb=>by
    have up:∀b,New w.heap.size w3.heap.size b->New w.heap.size w'.heap.size b:=fun b h=>⟨h.1,Nat.lt_of_lt_of_le h.2 (Nat.le_trans (uh a4q) hb.size)⟩
    refine⟨(204,g),[],.slice va nd1.length vc,.slice vb nd2.length vd,nd1,nd2,rfl,⟨Nat.le_trans (uh HT4).size hg,hgl⟩,rfl,?_,⟨(uh aul).stays adt hb,fun b h=>up b (uh a2n b h)⟩,jg.mono up _ _ (jg.o8 (Ae.of_below hb) _ _ (uh aum)),⟨(uh aun).stays adt hb,fun b h=>up b (uh a2o b h)⟩,jg.mono up _ _ (jg.o8 (Ae.of_below hb) _ _ (uh auo)),rfl⟩
    rw[uh HQ]
    exact hbk
   generalize maxS (ta.cost (lg X.k.insts X.known) 0) (tb.cost (lg X.k.insts X.known) 0)=mx at *
   generalize ta.cost (lg X.k.insts X.known) 0=ca at *
   generalize tb.cost (lg X.k.insts X.known) 0=cb at *
   clear aul aum aun auo e8 e9 b2' h0 hz
   refine(uh HMA).mono ?_
   rintro e w5 ⟨rfl,hb5⟩
   have HMC:=hide (uh HMB w5 hb5)
   have a0m:=hide hb5
   clear hb5
   go_wp2_with fail
   refine(uh HMC).mono ?_
   rintro e w6 ⟨rfl,hb6⟩
   have Oa:Hid (Below w4.heap.size w4 w6):=(uh a0m).trans (hb6.mono (uh a0m).size)
   clear hb6
   by_cases hlt:ca<cb
   ·have hmx:mx=cb:=(uh HMX).trans (if_pos hlt)
    subst hmx
    clear HMX
    go_wp2
    go_ret
    rw[uh HF]
    have hb7:Below w4.heap.size w4 (w6.alloc (.cells #[.int .i64 (1+mx),.int .i64 q,.slice va nd1.length vc,.slice vb nd2.length vd] 206)):=(uh Oa).alloc (uh Oa).size _
    exact⟨(204,w6.heap.size),rfl,uh Ob _ _ (uh Oa).size (jl _ _ _).lt (jl _ _ _) hb7,(uh Es).stays hb7,(uh HT4).trans (But.of_below hb7),uh HR2⟩
   ·have hmx:mx=ca:=(uh HMX).trans (if_neg hlt)
    subst hmx
    clear HMX
    go_wp2
    go_ret
    rw[uh HF]
    have hb7:Below w4.heap.size w4 (w6.alloc (.cells #[.int .i64 (1+mx),.int .i64 q,.slice va nd1.length vc,.slice vb nd2.length vd] 206)):=(uh Oa).alloc (uh Oa).size _
    exact⟨(204,w6.heap.size),rfl,uh Ob _ _ (uh Oa).size (jl _ _ _).lt (jl _ _ _) hb7,(uh Es).stays hb7,(uh HT4).trans (But.of_below hb7),uh HR2⟩
end Go.Proofs.YtlcgnbcgmljpaaaGreat
