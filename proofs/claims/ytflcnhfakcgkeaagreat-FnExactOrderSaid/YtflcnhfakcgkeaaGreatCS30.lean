import Derived.Test.YtflcnhfakcgkeaaGreatCS28
import Derived.Test.YtflcnhfakcgkeaaGreatWgtD
namespace Go.Proofs.YtflcnhfakcgkeaaGreat
open Go.RowKit
set_option linter.unusedSimpArgs false
set_option linter.unusedVariables false
theorem au {P:Program} {ops:Array Oper} {Q:Exit->Act->World->Prop} {md:Region.Mode} {S:World->Prop} {i:Nat} {d:Tmp} {oi:Oper} {v:Value} {fuel:Nat} {listed:Array Bool} {a:Act} {w:World} (hi:ops[i]?=some oi) (hd:oi.dst=some d)
  (hs:Region.noSelect ops=true) (hf:Region.free md ops listed i=true) (hr:(Region.ready md ops listed).contains i=true) (hQ:∀c a w,Q (.panic c) (a.put (some d) v) w->Q (.panic c) a w) (hy:YieldsIf P ops S oi v a) (hS:S w)
  (h:wpAnyH P md ops Q S fuel (listed.setIfInBounds i true) (a.put (some d) v) w):wpAnyH P md ops Q S (fuel+1) listed a w :=
 wpAnyH_take hi hs hf hr (by rw[hd];exact hQ) hy hS (by rw[hd];exact h)
def Ho (wv:Int) (vl nE inn:Nat):Int × Int:=if 20000<wv∨500<vl+inn∨500<nE+inn then (9,0) else (0,0)
set_option maxRecDepth 20000 in
set_option maxHeartbeats 8000000 in
theorem ap3 (W w:World) (ns:List ay) (i:Nat) (x:ay) (b o cb EB:Nat) (G:List Int) (sb vb:Nat) (ov:Value) (D:List Nat) (C L:List cu->Option Nat) (N:Nat) (h:Ck W w ns i x b o cb EB G sb vb ov D C L N) (hxb:qw x=true) (hsm:aaf x) (hE:∀e,e∈x.eqs->e.call.size=0->jh ns i e.call<0) :
  Calls Tryz.prog 82 #[.pointer (some ⟨cb,0,none⟩)] w (O5 (Ho ((ng ns i (jl ns i) x.eqs x.eqs.length:Nat):Int) (aj x).length x.eqs.length (wo x.eqs x.eqs.length)) w):=by
 obtain⟨oa,oc,hov⟩:=h.sc.ord.slice
 rw[h.sc.Eh] at hov
 subst hov
 have hold:=h.sc.old
 have c0:=h.blk.cell (i:=0) (v:=.pointer (some ⟨sb,0,none⟩)) rfl
 have c1:=h.blk.cell (i:=1) (v:=.map (some EB)) rfl
 have s0:=h.sc.tq.cell (i:=0) (v:=.pointer (some ⟨b,o+i*5,none⟩)) rfl
 have s1:=h.sc.tq.cell (i:=1) (v:=.slice oa (aj x).length oc) rfl
 have avr:=hide h.node
 have as1:=hide h.lib
 obtain⟨hbl,cs,hl,hc,v1,v2,v3,v4,rfl,hs,_,_,_,Lm⟩:=h.node
 obtain⟨ea,ec,hv4⟩:=Lm.shape
 subst hv4
 have k4:=(hold.cell (p:=⟨b,_,none⟩) hbl).trans (hc 4 (by simp))
 simp only[List.getElem_cons_zero,List.getElem_cons_succ] at k4
 have I7:=((yg x).1 hxb).1
 have hvl:(aj x).length<=500:=by
  unfold aj
  rw[List.length_append,List.length_append]
  exact I7.2.1
 have ayr:bf 4 88 Dt 0 W (.slice ea x.eqs.length ec) x.eqs:=Lm
 have HQS:=hide ayr
 have Uw:=hide hsm
 have hinl:=agh x.eqs (fun e he=>by
  have h9:=(hsm.2 e he).1
  unfold yc
  have h4:=Ez (decide (e.call.size=0)) (dw e) (dw e).length
  have h3:=Ed (dw e) 3000 h9.2 (dw e).length
  have h5:(dw e).length*3000<=500*3000:=Nat.mul_le_mul_right _ h9.1
  omega)
 have as2:=hide hinl
 have HW:Hid (∀w',Below w.heap.size w w'->Calls Tryz.prog 83 #[.map (some EB),.pointer (some ⟨b,o+i*5,none⟩)] w' (Ans (.int .i64 ((ng ns i (jl ns i) x.eqs x.eqs.length:Nat):Int)) w')):=fun w' hb=>by
  have vg:Below W.heap.size W w':=hold.trans (hb.mono hold.size)
  exact ah8 ns i x EB b o b (o+i*5) w' ((uh avr).stays jk vg) ((uh as1).below vg) hsm hE
 have HOLD:=hide hold
 obtain⟨PO,l7⟩:∃PO:Ending->World->Prop,PO=O5 (Ho ((ng ns i (jl ns i) x.eqs x.eqs.length:Nat):Int) (aj x).length x.eqs.length (wo x.eqs x.eqs.length)) w:=⟨_,rfl⟩
 rw[←l7]
 have qy:=hide l7
 generalize hwv:((ng ns i (jl ns i) x.eqs x.eqs.length:Nat):Int)=wv at *
 generalize o+i*5=oi at *
 have Kv:Hid (∀w',Below w.heap.size w w'->w'.cell? ⟨cb,0,none⟩=some (.pointer (some ⟨sb,0,none⟩))∧w'.cell? ⟨cb,1,none⟩=some (.map (some EB))∧w'.cell? ⟨sb,0,none⟩=some (.pointer (some ⟨b,oi,none⟩))∧w'.cell? ⟨sb,1,none⟩=some (.slice oa (aj x).length oc)∧w'.cell? ⟨b,oi+4,none⟩=some (.slice ea x.eqs.length ec)):=fun w' hb=>by
  have hk:∀{p:Addr} {v:Value},w.cell? p=some v->w'.cell? p=some v:=fun {p v} h9=>(hb.cell (World.block_lt_of_cell? w _ h9)).trans h9
  exact⟨hk c0,hk c1,hk s0,hk s1,hk k4⟩
 clear h hc hl hs Lm ayr hsm hE hold hxb l7 hinl hbl avr as1 hwv
 have anj:=I7.2.2.2
 clear I7
 go_enter Tryz.func82,Tryz.ntmps82
 go_wp2
 clear c0 c1 s0 s1 k4
 go_loopg [4,17] x.eqs.length (fun gm nv iv wr=>∃k:Nat,k<=x.eqs.length∧gm=x.eqs.length-k∧iv=.int .i64 k∧nv=.int .i64 ((wo x.eqs k:Nat):Int)∧Below w.heap.size w wr)
 case atStart=>exact⟨0,Nat.zero_le _,by omega,rfl,rfl,Below.refl _ _⟩
 case round =>
  obtain⟨k,hk,hgm,rfl,rfl,hb⟩:=hrel
  rename World=>wr
  have HG:=hide hgm
  have HB:=hide hb
  have hil:=uh as2 k
  clear hgm
  by_cases hlt:k<x.eqs.length
  case pos =>
   have Ec:(k:Int)<(x.eqs.length:Int):=by omega
   have hk0:(0:Int)<=(k:Int):=by omega
   obtain⟨z0,z1,z2,z3,z4⟩:=uh Kv wr hb
   have avs:Below W.heap.size W wr:=(uh HOLD).trans (hb.mono (uh HOLD).size)
   obtain⟨eb,eo,aiz,hv4,hat⟩:=((uh HQS).stays xq avs).at' k hlt
   simp only[Value.slice.injEq] at hv4
   obtain⟨rfl,_,rfl⟩:=hv4
   have hsk:=(uh Uw).2 _ (List.getElem_mem hlt)
   have HIF:=hide (aaq x.eqs[k] eb (eo+k*4) wr hat hsk.1.2 hsk.1.1 hsk.2)
   have hsucc:wo x.eqs (k+1)=wo x.eqs k+yc x.eqs[k]:=by
    rw[wo,List.getElem?_eq_getElem hlt]
   have a2g:=uh as2 (k+1)
   have hwr:IntKind.i64.wrap (((wo x.eqs k:Nat):Int)+((yc x.eqs[k]:Nat):Int))=((wo x.eqs (k+1):Nat):Int):=by
    rw[IntKind.wrap_i64,hsucc]
    omega
   have yw:=hide hlt
   generalize hn1:wo x.eqs (k+1)=nk1 at *
   have U6:=hide hn1
   clear hn1
   generalize wo x.eqs k=nk at *
   generalize yc x.eqs[k]=ni at *
   clear hat hsk hsucc avs hb hlt hil a2g
   go_wp2_with fail
   refine(uh HIF).mono ?_
   rintro e9 w2 ⟨rfl,hb2⟩
   have HB2:=hide ((uh HB).trans (hb2.mono (uh HB).size))
   clear hb2 z0 z1 z2 z3 z4 HIF
   go_wp2
   go_roundg (x.eqs.length-(k+1))
   case measure =>
    have h8:=uh yw
    have h9:=uh HG
    omega
   case rel=>exact⟨k+1,uh yw,rfl,by go_num,by rw[uh U6],uh HB2⟩
  have hke:k=x.eqs.length:=by omega
  have Ec:¬(k:Int)<(x.eqs.length:Int):=by omega
  obtain⟨z0,z1,z2,z3,z4⟩:=uh Kv wr hb
  have HWG:Hid (Calls Tryz.prog 83 #[.map (some EB),.pointer (some ⟨b,oi,none⟩)] wr.drew fun e w'=>e=.returned (.int .i64 wv)∧Hid (Below w.heap.size w w')∧(w'.cell? ⟨cb,0,none⟩=some (.pointer (some ⟨sb,0,none⟩))∧w'.cell? ⟨cb,1,none⟩=some (.map (some EB))∧w'.cell? ⟨sb,0,none⟩=some (.pointer (some ⟨b,oi,none⟩))∧w'.cell? ⟨sb,1,none⟩=some (.slice oa (aj x).length oc)∧w'.cell? ⟨b,oi+4,none⟩=some (.slice ea x.eqs.length ec))):=by
   refine hide ((uh HW wr.drew hb.drew).mono ?_)
   rintro e w' ⟨rfl,vg⟩
   have hb8:Below w.heap.size w w':=hb.drew.trans (vg.mono hb.size)
   exact⟨rfl,hb8,uh Kv w' hb8⟩
  have gq:Hid (∀r w',Ho wv (aj x).length x.eqs.length (wo x.eqs k)=r->Below w.heap.size w w'->PO (.returned (.tuple #[.int .i64 r.1,.int .i64 r.2])) w'):=fun r w' hr vg=>by
   have e9:wo x.eqs x.eqs.length=wo x.eqs k:=by rw[hke]
   rw[uh qy,e9,hr]
   exact⟨rfl,vg⟩
  have ays:wo x.eqs k<=1000000000:=by
   have:=Nat.mul_le_mul_right 1500000 (show k<=500 by omega)
   omega
  generalize wo x.eqs k=nk at *
  generalize ar7:((nk:Nat):Int)=inn at *
  have hw1:IntKind.i64.wrap (((aj x).length:Int)+inn)=((aj x).length:Int)+inn:=by
   rw[IntKind.wrap_i64]
   omega
  have hw2:IntKind.i64.wrap ((x.eqs.length:Int)+inn)=(x.eqs.length:Int)+inn:=by
   rw[IntKind.wrap_i64]
   omega
  have HIN:=hide ar7
  have HFA:Hid (20000<wv->∀w',Below w.heap.size w w'->PO (.returned (.tuple #[.int .i64 9,.int .i64 0])) w'):=fun h9 w' vg=>uh gq (9,0) w' (by unfold Ho;rw[if_pos (Or.inl h9)]) vg
  have HFB:Hid (500<((aj x).length:Int)+inn->∀w',Below w.heap.size w w'->PO (.returned (.tuple #[.int .i64 9,.int .i64 0])) w'):=fun h9 w' vg=>uh gq (9,0) w' (by unfold Ho;rw[if_pos (Or.inr (Or.inl (by omega)))]) vg
  have U5:Hid (500<(x.eqs.length:Int)+inn->∀w',Below w.heap.size w w'->PO (.returned (.tuple #[.int .i64 9,.int .i64 0])) w'):=fun h9 w' vg=>uh gq (9,0) w' (by unfold Ho;rw[if_pos (Or.inr (Or.inr (by omega)))]) vg
  have HFD:Hid (¬20000<wv->¬500<((aj x).length:Int)+inn->¬500<(x.eqs.length:Int)+inn->∀w',Below w.heap.size w w'->PO (.returned (.tuple #[.int .i64 0,.int .i64 0])) w'):=fun h9 h8 h7 w' vg=>uh gq (0,0) w' (by unfold Ho;rw[if_neg (by omega)]) vg
  clear hke hb gq HW Kv HQS Uw as2 qy ar7 hil ays anj hvl hlt HOLD
  generalize (aj x).length=vl at *
  generalize x.eqs.length=nE at *
  by_cases hA:20000<wv
  ·have HF:=hide (uh HFA hA)
   have dA:decide (20000<wv)=true:=decide_eq_true hA
   clear HFA HFB U5 HFD
   go_wp2_with fail
   refine wp_region_held_drew (S:=(fun w'=>w'.cell? ⟨cb,0,none⟩=some (.pointer (some ⟨sb,0,none⟩))∧w'.cell? ⟨cb,1,none⟩=some (.map (some EB))∧w'.cell? ⟨sb,0,none⟩=some (.pointer (some ⟨b,oi,none⟩))∧w'.cell? ⟨sb,1,none⟩=some (.slice oa vl oc)∧w'.cell? ⟨b,oi+4,none⟩=some (.slice ea nE ec))) (by kernel_rfl) (by go_keep) (fun hHeld=>?_)
   refine au (i:=0) (d:=36) (v:=_) rfl rfl (by kernel_rfl) (by kernel_rfl) (by kernel_rfl) (fun _ _ _ h=>h) (Or.inl ⟨by kernel_rfl,fun _ _=>rfl⟩) hHeld ?_
   try simp only[Act.put,List.setIfInBounds_toArray,List.set_cons_zero,List.set_cons_succ]
   refine au (i:=1) (d:=37) (v:=.pointer (some ⟨cb,0,none⟩)) rfl rfl (by kernel_rfl) (by kernel_rfl) (by kernel_rfl) (fun _ _ _ h=>h) (Or.inl ⟨by kernel_rfl,fun w9 iq=>by obtain⟨e0,e1,e2,e3,e4⟩:=iq;go_simp⟩) hHeld ?_
   try simp only[Act.put,List.setIfInBounds_toArray,List.set_cons_zero,List.set_cons_succ]
   refine au (i:=2) (d:=38) (v:=.pointer (some ⟨cb,1,none⟩)) rfl rfl (by kernel_rfl) (by kernel_rfl) (by kernel_rfl) (fun _ _ _ h=>h) (Or.inl ⟨by kernel_rfl,fun w9 iq=>by obtain⟨e0,e1,e2,e3,e4⟩:=iq;go_simp⟩) hHeld ?_
   try simp only[Act.put,List.setIfInBounds_toArray,List.set_cons_zero,List.set_cons_succ]
   refine au (i:=3) (d:=39) (v:=.map (some EB)) rfl rfl (by kernel_rfl) (by kernel_rfl) (by kernel_rfl) (fun _ _ _ h=>h) (Or.inl ⟨by kernel_rfl,fun w9 iq=>by obtain⟨e0,e1,e2,e3,e4⟩:=iq;go_simp⟩) hHeld ?_
   try simp only[Act.put,List.setIfInBounds_toArray,List.set_cons_zero,List.set_cons_succ]
   refine au (i:=4) (d:=40) (v:=_) rfl rfl (by kernel_rfl) (by kernel_rfl) (by kernel_rfl) (fun _ _ _ h=>h) (Or.inl ⟨by kernel_rfl,fun _ _=>rfl⟩) hHeld ?_
   try simp only[Act.put,List.setIfInBounds_toArray,List.set_cons_zero,List.set_cons_succ]
   refine au (i:=5) (d:=41) (v:=.pointer (some ⟨cb,0,none⟩)) rfl rfl (by kernel_rfl) (by kernel_rfl) (by kernel_rfl) (fun _ _ _ h=>h) (Or.inl ⟨by kernel_rfl,fun w9 iq=>by obtain⟨e0,e1,e2,e3,e4⟩:=iq;go_simp⟩) hHeld ?_
   try simp only[Act.put,List.setIfInBounds_toArray,List.set_cons_zero,List.set_cons_succ]
   refine au (i:=6) (d:=42) (v:=.pointer (some ⟨cb,0,none⟩)) rfl rfl (by kernel_rfl) (by kernel_rfl) (by kernel_rfl) (fun _ _ _ h=>h) (Or.inl ⟨by kernel_rfl,fun w9 iq=>by obtain⟨e0,e1,e2,e3,e4⟩:=iq;go_simp⟩) hHeld ?_
   try simp only[Act.put,List.setIfInBounds_toArray,List.set_cons_zero,List.set_cons_succ]
   refine au (i:=7) (d:=43) (v:=.pointer (some ⟨sb,0,none⟩)) rfl rfl (by kernel_rfl) (by kernel_rfl) (by kernel_rfl) (fun _ _ _ h=>h) (Or.inl ⟨by kernel_rfl,fun w9 iq=>by obtain⟨e0,e1,e2,e3,e4⟩:=iq;go_simp⟩) hHeld ?_
   try simp only[Act.put,List.setIfInBounds_toArray,List.set_cons_zero,List.set_cons_succ]
   refine au (i:=8) (d:=44) (v:=.pointer (some ⟨sb,0,none⟩)) rfl rfl (by kernel_rfl) (by kernel_rfl) (by kernel_rfl) (fun _ _ _ h=>h) (Or.inl ⟨by kernel_rfl,fun w9 iq=>by obtain⟨e0,e1,e2,e3,e4⟩:=iq;go_simp⟩) hHeld ?_
   try simp only[Act.put,List.setIfInBounds_toArray,List.set_cons_zero,List.set_cons_succ]
   refine au (i:=9) (d:=45) (v:=.pointer (some ⟨sb,0,none⟩)) rfl rfl (by kernel_rfl) (by kernel_rfl) (by kernel_rfl) (fun _ _ _ h=>h) (Or.inl ⟨by kernel_rfl,fun w9 iq=>by obtain⟨e0,e1,e2,e3,e4⟩:=iq;go_simp⟩) hHeld ?_
   try simp only[Act.put,List.setIfInBounds_toArray,List.set_cons_zero,List.set_cons_succ]
   refine au (i:=10) (d:=46) (v:=.pointer (some ⟨b,oi,none⟩)) rfl rfl (by kernel_rfl) (by kernel_rfl) (by kernel_rfl) (fun _ _ _ h=>h) (Or.inl ⟨by kernel_rfl,fun w9 iq=>by obtain⟨e0,e1,e2,e3,e4⟩:=iq;go_simp⟩) hHeld ?_
   try simp only[Act.put,List.setIfInBounds_toArray,List.set_cons_zero,List.set_cons_succ]
   refine wpAnyH_ready (rs:=[11]) (by kernel_rfl) (by simp) ?_
   refine AllReadyH.cons rfl (fun K hK=>?_) AllReadyH.nil
   go_simp
   refine(uh HWG).mono ?_
   rintro e w4 ⟨rfl,hB4,z0,z1,z2,z3,z4⟩
   refine hK.out _ _ ⟨z0,z1,z2,z3,z4⟩ (fun hHeld=>?_)
   clear hK K
   try simp only[Act.put,List.setIfInBounds_toArray,List.set_cons_zero,List.set_cons_succ]
   refine au (i:=12) (d:=48) (v:=.bool true) rfl rfl (by kernel_rfl) (by kernel_rfl) (by kernel_rfl) (fun _ _ _ h=>h) (Or.inl ⟨by kernel_rfl,fun w9 iq=>by obtain⟨e0,e1,e2,e3,e4⟩:=iq;go_simp⟩) hHeld ?_
   try simp only[Act.put,List.setIfInBounds_toArray,List.set_cons_zero,List.set_cons_succ]
   refine au (i:=13) (d:=49) (v:=_) rfl rfl (by kernel_rfl) (by kernel_rfl) (by kernel_rfl) (fun _ _ _ h=>h) (Or.inl ⟨by kernel_rfl,fun _ _=>rfl⟩) hHeld ?_
   try simp only[Act.put,List.setIfInBounds_toArray,List.set_cons_zero,List.set_cons_succ]
   refine au (i:=14) (d:=50) (v:=undef) rfl rfl (by kernel_rfl) (by kernel_rfl) (by kernel_rfl) (fun _ _ _ h=>h) (Or.inr ⟨by kernel_rfl,rfl⟩) hHeld ?_
   try simp only[Act.put,List.setIfInBounds_toArray,List.set_cons_zero,List.set_cons_succ]
   refine au (i:=15) (d:=51) (v:=undef) rfl rfl (by kernel_rfl) (by kernel_rfl) (by kernel_rfl) (fun _ _ _ h=>h) (Or.inr ⟨by kernel_rfl,rfl⟩) hHeld ?_
   try simp only[Act.put,List.setIfInBounds_toArray,List.set_cons_zero,List.set_cons_succ]
   refine au (i:=16) (d:=52) (v:=undef) rfl rfl (by kernel_rfl) (by kernel_rfl) (by kernel_rfl) (fun _ _ _ h=>h) (Or.inr ⟨by kernel_rfl,rfl⟩) hHeld ?_
   try simp only[Act.put,List.setIfInBounds_toArray,List.set_cons_zero,List.set_cons_succ]
   refine au (i:=17) (d:=53) (v:=undef) rfl rfl (by kernel_rfl) (by kernel_rfl) (by kernel_rfl) (fun _ _ _ h=>h) (Or.inr ⟨by kernel_rfl,rfl⟩) hHeld ?_
   try simp only[Act.put,List.setIfInBounds_toArray,List.set_cons_zero,List.set_cons_succ]
   refine au (i:=18) (d:=54) (v:=undef) rfl rfl (by kernel_rfl) (by kernel_rfl) (by kernel_rfl) (fun _ _ _ h=>h) (Or.inr ⟨by kernel_rfl,rfl⟩) hHeld ?_
   try simp only[Act.put,List.setIfInBounds_toArray,List.set_cons_zero,List.set_cons_succ]
   refine au (i:=19) (d:=55) (v:=undef) rfl rfl (by kernel_rfl) (by kernel_rfl) (by kernel_rfl) (fun _ _ _ h=>h) (Or.inr ⟨by kernel_rfl,rfl⟩) hHeld ?_
   try simp only[Act.put,List.setIfInBounds_toArray,List.set_cons_zero,List.set_cons_succ]
   refine au (i:=20) (d:=56) (v:=undef) rfl rfl (by kernel_rfl) (by kernel_rfl) (by kernel_rfl) (fun _ _ _ h=>h) (Or.inr ⟨by kernel_rfl,rfl⟩) hHeld ?_
   try simp only[Act.put,List.setIfInBounds_toArray,List.set_cons_zero,List.set_cons_succ]
   refine au (i:=21) (d:=57) (v:=undef) rfl rfl (by kernel_rfl) (by kernel_rfl) (by kernel_rfl) (fun _ _ _ h=>h) (Or.inr ⟨by kernel_rfl,rfl⟩) hHeld ?_
   try simp only[Act.put,List.setIfInBounds_toArray,List.set_cons_zero,List.set_cons_succ]
   refine au (i:=22) (d:=58) (v:=undef) rfl rfl (by kernel_rfl) (by kernel_rfl) (by kernel_rfl) (fun _ _ _ h=>h) (Or.inr ⟨by kernel_rfl,rfl⟩) hHeld ?_
   try simp only[Act.put,List.setIfInBounds_toArray,List.set_cons_zero,List.set_cons_succ]
   refine au (i:=23) (d:=59) (v:=undef) rfl rfl (by kernel_rfl) (by kernel_rfl) (by kernel_rfl) (fun _ _ _ h=>h) (Or.inr ⟨by kernel_rfl,rfl⟩) hHeld ?_
   try simp only[Act.put,List.setIfInBounds_toArray,List.set_cons_zero,List.set_cons_succ]
   refine au (i:=24) (d:=60) (v:=undef) rfl rfl (by kernel_rfl) (by kernel_rfl) (by kernel_rfl) (fun _ _ _ h=>h) (Or.inr ⟨by kernel_rfl,rfl⟩) hHeld ?_
   try simp only[Act.put,List.setIfInBounds_toArray,List.set_cons_zero,List.set_cons_succ]
   refine au (i:=25) (d:=61) (v:=.bool true) rfl rfl (by kernel_rfl) (by kernel_rfl) (by kernel_rfl) (fun _ _ _ h=>h) (Or.inl ⟨by kernel_rfl,fun w9 iq=>by obtain⟨e0,e1,e2,e3,e4⟩:=iq;go_simp⟩) hHeld ?_
   try simp only[Act.put,List.setIfInBounds_toArray,List.set_cons_zero,List.set_cons_succ]
   refine au (i:=26) (d:=62) (v:=_) rfl rfl (by kernel_rfl) (by kernel_rfl) (by kernel_rfl) (fun _ _ _ h=>h) (Or.inl ⟨by kernel_rfl,fun _ _=>rfl⟩) hHeld ?_
   try simp only[Act.put,List.setIfInBounds_toArray,List.set_cons_zero,List.set_cons_succ]
   refine au (i:=27) (d:=63) (v:=undef) rfl rfl (by kernel_rfl) (by kernel_rfl) (by kernel_rfl) (fun _ _ _ h=>h) (Or.inr ⟨by kernel_rfl,rfl⟩) hHeld ?_
   try simp only[Act.put,List.setIfInBounds_toArray,List.set_cons_zero,List.set_cons_succ]
   refine au (i:=28) (d:=64) (v:=undef) rfl rfl (by kernel_rfl) (by kernel_rfl) (by kernel_rfl) (fun _ _ _ h=>h) (Or.inr ⟨by kernel_rfl,rfl⟩) hHeld ?_
   try simp only[Act.put,List.setIfInBounds_toArray,List.set_cons_zero,List.set_cons_succ]
   refine au (i:=29) (d:=65) (v:=undef) rfl rfl (by kernel_rfl) (by kernel_rfl) (by kernel_rfl) (fun _ _ _ h=>h) (Or.inr ⟨by kernel_rfl,rfl⟩) hHeld ?_
   try simp only[Act.put,List.setIfInBounds_toArray,List.set_cons_zero,List.set_cons_succ]
   refine au (i:=30) (d:=66) (v:=undef) rfl rfl (by kernel_rfl) (by kernel_rfl) (by kernel_rfl) (fun _ _ _ h=>h) (Or.inr ⟨by kernel_rfl,rfl⟩) hHeld ?_
   try simp only[Act.put,List.setIfInBounds_toArray,List.set_cons_zero,List.set_cons_succ]
   refine au (i:=31) (d:=67) (v:=undef) rfl rfl (by kernel_rfl) (by kernel_rfl) (by kernel_rfl) (fun _ _ _ h=>h) (Or.inr ⟨by kernel_rfl,rfl⟩) hHeld ?_
   try simp only[Act.put,List.setIfInBounds_toArray,List.set_cons_zero,List.set_cons_succ]
   refine au (i:=32) (d:=68) (v:=undef) rfl rfl (by kernel_rfl) (by kernel_rfl) (by kernel_rfl) (fun _ _ _ h=>h) (Or.inr ⟨by kernel_rfl,rfl⟩) hHeld ?_
   try simp only[Act.put,List.setIfInBounds_toArray,List.set_cons_zero,List.set_cons_succ]
   refine au (i:=33) (d:=69) (v:=undef) rfl rfl (by kernel_rfl) (by kernel_rfl) (by kernel_rfl) (fun _ _ _ h=>h) (Or.inr ⟨by kernel_rfl,rfl⟩) hHeld ?_
   try simp only[Act.put,List.setIfInBounds_toArray,List.set_cons_zero,List.set_cons_succ]
   refine au (i:=34) (d:=70) (v:=undef) rfl rfl (by kernel_rfl) (by kernel_rfl) (by kernel_rfl) (fun _ _ _ h=>h) (Or.inr ⟨by kernel_rfl,rfl⟩) hHeld ?_
   try simp only[Act.put,List.setIfInBounds_toArray,List.set_cons_zero,List.set_cons_succ]
   refine au (i:=35) (d:=71) (v:=undef) rfl rfl (by kernel_rfl) (by kernel_rfl) (by kernel_rfl) (fun _ _ _ h=>h) (Or.inr ⟨by kernel_rfl,rfl⟩) hHeld ?_
   try simp only[Act.put,List.setIfInBounds_toArray,List.set_cons_zero,List.set_cons_succ]
   refine au (i:=36) (d:=72) (v:=undef) rfl rfl (by kernel_rfl) (by kernel_rfl) (by kernel_rfl) (fun _ _ _ h=>h) (Or.inr ⟨by kernel_rfl,rfl⟩) hHeld ?_
   try simp only[Act.put,List.setIfInBounds_toArray,List.set_cons_zero,List.set_cons_succ]
   refine au (i:=37) (d:=73) (v:=undef) rfl rfl (by kernel_rfl) (by kernel_rfl) (by kernel_rfl) (fun _ _ _ h=>h) (Or.inr ⟨by kernel_rfl,rfl⟩) hHeld ?_
   try simp only[Act.put,List.setIfInBounds_toArray,List.set_cons_zero,List.set_cons_succ]
   refine au (i:=38) (d:=74) (v:=undef) rfl rfl (by kernel_rfl) (by kernel_rfl) (by kernel_rfl) (fun _ _ _ h=>h) (Or.inr ⟨by kernel_rfl,rfl⟩) hHeld ?_
   try simp only[Act.put,List.setIfInBounds_toArray,List.set_cons_zero,List.set_cons_succ]
   refine au (i:=39) (d:=75) (v:=undef) rfl rfl (by kernel_rfl) (by kernel_rfl) (by kernel_rfl) (fun _ _ _ h=>h) (Or.inr ⟨by kernel_rfl,rfl⟩) hHeld ?_
   try simp only[Act.put,List.setIfInBounds_toArray,List.set_cons_zero,List.set_cons_succ]
   refine au (i:=40) (d:=76) (v:=undef) rfl rfl (by kernel_rfl) (by kernel_rfl) (by kernel_rfl) (fun _ _ _ h=>h) (Or.inr ⟨by kernel_rfl,rfl⟩) hHeld ?_
   try simp only[Act.put,List.setIfInBounds_toArray,List.set_cons_zero,List.set_cons_succ]
   refine au (i:=41) (d:=77) (v:=.bool true) rfl rfl (by kernel_rfl) (by kernel_rfl) (by kernel_rfl) (fun _ _ _ h=>h) (Or.inl ⟨by kernel_rfl,fun w9 iq=>by obtain⟨e0,e1,e2,e3,e4⟩:=iq;go_simp⟩) hHeld ?_
   try simp only[Act.put,List.setIfInBounds_toArray,List.set_cons_zero,List.set_cons_succ]
   refine wpAnyH_done (by kernel_rfl) ?_ _
   have HE:=hide (uh HF w4 (uh hB4))
   clear z0 z1 z2 z3 z4
   go_wp2
   exact uh HE
  have dA:decide (20000<wv)=false:=decide_eq_false hA
  by_cases hB:500<(vl:Int)+inn
  ·have HF:=hide (uh HFB hB)
   have dB:decide (500<(vl:Int)+inn)=true:=decide_eq_true hB
   clear HFA HFB U5 HFD
   go_wp2_with fail
   refine wp_region_held_drew (S:=(fun w'=>w'.cell? ⟨cb,0,none⟩=some (.pointer (some ⟨sb,0,none⟩))∧w'.cell? ⟨cb,1,none⟩=some (.map (some EB))∧w'.cell? ⟨sb,0,none⟩=some (.pointer (some ⟨b,oi,none⟩))∧w'.cell? ⟨sb,1,none⟩=some (.slice oa vl oc)∧w'.cell? ⟨b,oi+4,none⟩=some (.slice ea nE ec))) (by kernel_rfl) (by go_keep) (fun hHeld=>?_)
   refine au (i:=0) (d:=36) (v:=_) rfl rfl (by kernel_rfl) (by kernel_rfl) (by kernel_rfl) (fun _ _ _ h=>h) (Or.inl ⟨by kernel_rfl,fun _ _=>rfl⟩) hHeld ?_
   try simp only[Act.put,List.setIfInBounds_toArray,List.set_cons_zero,List.set_cons_succ]
   refine au (i:=1) (d:=37) (v:=.pointer (some ⟨cb,0,none⟩)) rfl rfl (by kernel_rfl) (by kernel_rfl) (by kernel_rfl) (fun _ _ _ h=>h) (Or.inl ⟨by kernel_rfl,fun w9 iq=>by obtain⟨e0,e1,e2,e3,e4⟩:=iq;go_simp⟩) hHeld ?_
   try simp only[Act.put,List.setIfInBounds_toArray,List.set_cons_zero,List.set_cons_succ]
   refine au (i:=2) (d:=38) (v:=.pointer (some ⟨cb,1,none⟩)) rfl rfl (by kernel_rfl) (by kernel_rfl) (by kernel_rfl) (fun _ _ _ h=>h) (Or.inl ⟨by kernel_rfl,fun w9 iq=>by obtain⟨e0,e1,e2,e3,e4⟩:=iq;go_simp⟩) hHeld ?_
   try simp only[Act.put,List.setIfInBounds_toArray,List.set_cons_zero,List.set_cons_succ]
   refine au (i:=3) (d:=39) (v:=.map (some EB)) rfl rfl (by kernel_rfl) (by kernel_rfl) (by kernel_rfl) (fun _ _ _ h=>h) (Or.inl ⟨by kernel_rfl,fun w9 iq=>by obtain⟨e0,e1,e2,e3,e4⟩:=iq;go_simp⟩) hHeld ?_
   try simp only[Act.put,List.setIfInBounds_toArray,List.set_cons_zero,List.set_cons_succ]
   refine au (i:=4) (d:=40) (v:=_) rfl rfl (by kernel_rfl) (by kernel_rfl) (by kernel_rfl) (fun _ _ _ h=>h) (Or.inl ⟨by kernel_rfl,fun _ _=>rfl⟩) hHeld ?_
   try simp only[Act.put,List.setIfInBounds_toArray,List.set_cons_zero,List.set_cons_succ]
   refine au (i:=5) (d:=41) (v:=.pointer (some ⟨cb,0,none⟩)) rfl rfl (by kernel_rfl) (by kernel_rfl) (by kernel_rfl) (fun _ _ _ h=>h) (Or.inl ⟨by kernel_rfl,fun w9 iq=>by obtain⟨e0,e1,e2,e3,e4⟩:=iq;go_simp⟩) hHeld ?_
   try simp only[Act.put,List.setIfInBounds_toArray,List.set_cons_zero,List.set_cons_succ]
   refine au (i:=6) (d:=42) (v:=.pointer (some ⟨cb,0,none⟩)) rfl rfl (by kernel_rfl) (by kernel_rfl) (by kernel_rfl) (fun _ _ _ h=>h) (Or.inl ⟨by kernel_rfl,fun w9 iq=>by obtain⟨e0,e1,e2,e3,e4⟩:=iq;go_simp⟩) hHeld ?_
   try simp only[Act.put,List.setIfInBounds_toArray,List.set_cons_zero,List.set_cons_succ]
   refine au (i:=7) (d:=43) (v:=.pointer (some ⟨sb,0,none⟩)) rfl rfl (by kernel_rfl) (by kernel_rfl) (by kernel_rfl) (fun _ _ _ h=>h) (Or.inl ⟨by kernel_rfl,fun w9 iq=>by obtain⟨e0,e1,e2,e3,e4⟩:=iq;go_simp⟩) hHeld ?_
   try simp only[Act.put,List.setIfInBounds_toArray,List.set_cons_zero,List.set_cons_succ]
   refine au (i:=8) (d:=44) (v:=.pointer (some ⟨sb,0,none⟩)) rfl rfl (by kernel_rfl) (by kernel_rfl) (by kernel_rfl) (fun _ _ _ h=>h) (Or.inl ⟨by kernel_rfl,fun w9 iq=>by obtain⟨e0,e1,e2,e3,e4⟩:=iq;go_simp⟩) hHeld ?_
   try simp only[Act.put,List.setIfInBounds_toArray,List.set_cons_zero,List.set_cons_succ]
   refine au (i:=9) (d:=45) (v:=.pointer (some ⟨sb,0,none⟩)) rfl rfl (by kernel_rfl) (by kernel_rfl) (by kernel_rfl) (fun _ _ _ h=>h) (Or.inl ⟨by kernel_rfl,fun w9 iq=>by obtain⟨e0,e1,e2,e3,e4⟩:=iq;go_simp⟩) hHeld ?_
   try simp only[Act.put,List.setIfInBounds_toArray,List.set_cons_zero,List.set_cons_succ]
   refine au (i:=10) (d:=46) (v:=.pointer (some ⟨b,oi,none⟩)) rfl rfl (by kernel_rfl) (by kernel_rfl) (by kernel_rfl) (fun _ _ _ h=>h) (Or.inl ⟨by kernel_rfl,fun w9 iq=>by obtain⟨e0,e1,e2,e3,e4⟩:=iq;go_simp⟩) hHeld ?_
   try simp only[Act.put,List.setIfInBounds_toArray,List.set_cons_zero,List.set_cons_succ]
   refine wpAnyH_ready (rs:=[11]) (by kernel_rfl) (by simp) ?_
   refine AllReadyH.cons rfl (fun K hK=>?_) AllReadyH.nil
   go_simp
   refine(uh HWG).mono ?_
   rintro e w4 ⟨rfl,hB4,z0,z1,z2,z3,z4⟩
   refine hK.out _ _ ⟨z0,z1,z2,z3,z4⟩ (fun hHeld=>?_)
   clear hK K
   try simp only[Act.put,List.setIfInBounds_toArray,List.set_cons_zero,List.set_cons_succ]
   refine au (i:=12) (d:=48) (v:=.bool false) rfl rfl (by kernel_rfl) (by kernel_rfl) (by kernel_rfl) (fun _ _ _ h=>h) (Or.inl ⟨by kernel_rfl,fun w9 iq=>by obtain⟨e0,e1,e2,e3,e4⟩:=iq;go_simp⟩) hHeld ?_
   try simp only[Act.put,List.setIfInBounds_toArray,List.set_cons_zero,List.set_cons_succ]
   refine au (i:=13) (d:=49) (v:=_) rfl rfl (by kernel_rfl) (by kernel_rfl) (by kernel_rfl) (fun _ _ _ h=>h) (Or.inl ⟨by kernel_rfl,fun _ _=>rfl⟩) hHeld ?_
   try simp only[Act.put,List.setIfInBounds_toArray,List.set_cons_zero,List.set_cons_succ]
   refine au (i:=14) (d:=50) (v:=_) rfl rfl (by kernel_rfl) (by kernel_rfl) (by kernel_rfl) (fun _ _ _ h=>h) (Or.inl ⟨by kernel_rfl,fun _ _=>rfl⟩) hHeld ?_
   try simp only[Act.put,List.setIfInBounds_toArray,List.set_cons_zero,List.set_cons_succ]
   refine au (i:=15) (d:=51) (v:=.pointer (some ⟨cb,0,none⟩)) rfl rfl (by kernel_rfl) (by kernel_rfl) (by kernel_rfl) (fun _ _ _ h=>h) (Or.inl ⟨by kernel_rfl,fun w9 iq=>by obtain⟨e0,e1,e2,e3,e4⟩:=iq;go_simp⟩) hHeld ?_
   try simp only[Act.put,List.setIfInBounds_toArray,List.set_cons_zero,List.set_cons_succ]
   refine au (i:=16) (d:=52) (v:=.pointer (some ⟨cb,0,none⟩)) rfl rfl (by kernel_rfl) (by kernel_rfl) (by kernel_rfl) (fun _ _ _ h=>h) (Or.inl ⟨by kernel_rfl,fun w9 iq=>by obtain⟨e0,e1,e2,e3,e4⟩:=iq;go_simp⟩) hHeld ?_
   try simp only[Act.put,List.setIfInBounds_toArray,List.set_cons_zero,List.set_cons_succ]
   refine au (i:=17) (d:=53) (v:=.pointer (some ⟨sb,0,none⟩)) rfl rfl (by kernel_rfl) (by kernel_rfl) (by kernel_rfl) (fun _ _ _ h=>h) (Or.inl ⟨by kernel_rfl,fun w9 iq=>by obtain⟨e0,e1,e2,e3,e4⟩:=iq;go_simp⟩) hHeld ?_
   try simp only[Act.put,List.setIfInBounds_toArray,List.set_cons_zero,List.set_cons_succ]
   refine au (i:=18) (d:=54) (v:=.pointer (some ⟨sb,0,none⟩)) rfl rfl (by kernel_rfl) (by kernel_rfl) (by kernel_rfl) (fun _ _ _ h=>h) (Or.inl ⟨by kernel_rfl,fun w9 iq=>by obtain⟨e0,e1,e2,e3,e4⟩:=iq;go_simp⟩) hHeld ?_
   try simp only[Act.put,List.setIfInBounds_toArray,List.set_cons_zero,List.set_cons_succ]
   refine au (i:=19) (d:=55) (v:=.pointer (some ⟨sb,1,none⟩)) rfl rfl (by kernel_rfl) (by kernel_rfl) (by kernel_rfl) (fun _ _ _ h=>h) (Or.inl ⟨by kernel_rfl,fun w9 iq=>by obtain⟨e0,e1,e2,e3,e4⟩:=iq;go_simp⟩) hHeld ?_
   try simp only[Act.put,List.setIfInBounds_toArray,List.set_cons_zero,List.set_cons_succ]
   refine au (i:=20) (d:=56) (v:=.slice oa vl oc) rfl rfl (by kernel_rfl) (by kernel_rfl) (by kernel_rfl) (fun _ _ _ h=>h) (Or.inl ⟨by kernel_rfl,fun w9 iq=>by obtain⟨e0,e1,e2,e3,e4⟩:=iq;go_simp⟩) hHeld ?_
   try simp only[Act.put,List.setIfInBounds_toArray,List.set_cons_zero,List.set_cons_succ]
   refine au (i:=21) (d:=57) (v:=.int .i64 (vl:Int)) rfl rfl (by kernel_rfl) (by kernel_rfl) (by kernel_rfl) (fun _ _ _ h=>h) (Or.inl ⟨by kernel_rfl,fun w9 iq=>by obtain⟨e0,e1,e2,e3,e4⟩:=iq;go_simp⟩) hHeld ?_
   try simp only[Act.put,List.setIfInBounds_toArray,List.set_cons_zero,List.set_cons_succ]
   refine au (i:=22) (d:=58) (v:=_) rfl rfl (by kernel_rfl) (by kernel_rfl) (by kernel_rfl) (fun _ _ _ h=>h) (Or.inl ⟨by kernel_rfl,fun _ _=>rfl⟩) hHeld ?_
   try simp only[Act.put,List.setIfInBounds_toArray,List.set_cons_zero,List.set_cons_succ]
   refine au (i:=23) (d:=59) (v:=.int .i64 ((vl:Int)+inn)) rfl rfl (by kernel_rfl) (by kernel_rfl) (by kernel_rfl) (fun _ _ _ h=>h) (Or.inl ⟨by kernel_rfl,fun w9 iq=>by obtain⟨e0,e1,e2,e3,e4⟩:=iq;go_simp⟩) hHeld ?_
   try simp only[Act.put,List.setIfInBounds_toArray,List.set_cons_zero,List.set_cons_succ]
   refine au (i:=24) (d:=60) (v:=.bool true) rfl rfl (by kernel_rfl) (by kernel_rfl) (by kernel_rfl) (fun _ _ _ h=>h) (Or.inl ⟨by kernel_rfl,fun w9 iq=>by obtain⟨e0,e1,e2,e3,e4⟩:=iq;go_simp⟩) hHeld ?_
   try simp only[Act.put,List.setIfInBounds_toArray,List.set_cons_zero,List.set_cons_succ]
   refine au (i:=25) (d:=61) (v:=.bool true) rfl rfl (by kernel_rfl) (by kernel_rfl) (by kernel_rfl) (fun _ _ _ h=>h) (Or.inl ⟨by kernel_rfl,fun w9 iq=>by obtain⟨e0,e1,e2,e3,e4⟩:=iq;go_simp⟩) hHeld ?_
   try simp only[Act.put,List.setIfInBounds_toArray,List.set_cons_zero,List.set_cons_succ]
   refine au (i:=26) (d:=62) (v:=_) rfl rfl (by kernel_rfl) (by kernel_rfl) (by kernel_rfl) (fun _ _ _ h=>h) (Or.inl ⟨by kernel_rfl,fun _ _=>rfl⟩) hHeld ?_
   try simp only[Act.put,List.setIfInBounds_toArray,List.set_cons_zero,List.set_cons_succ]
   refine au (i:=27) (d:=63) (v:=undef) rfl rfl (by kernel_rfl) (by kernel_rfl) (by kernel_rfl) (fun _ _ _ h=>h) (Or.inr ⟨by kernel_rfl,rfl⟩) hHeld ?_
   try simp only[Act.put,List.setIfInBounds_toArray,List.set_cons_zero,List.set_cons_succ]
   refine au (i:=28) (d:=64) (v:=undef) rfl rfl (by kernel_rfl) (by kernel_rfl) (by kernel_rfl) (fun _ _ _ h=>h) (Or.inr ⟨by kernel_rfl,rfl⟩) hHeld ?_
   try simp only[Act.put,List.setIfInBounds_toArray,List.set_cons_zero,List.set_cons_succ]
   refine au (i:=29) (d:=65) (v:=undef) rfl rfl (by kernel_rfl) (by kernel_rfl) (by kernel_rfl) (fun _ _ _ h=>h) (Or.inr ⟨by kernel_rfl,rfl⟩) hHeld ?_
   try simp only[Act.put,List.setIfInBounds_toArray,List.set_cons_zero,List.set_cons_succ]
   refine au (i:=30) (d:=66) (v:=undef) rfl rfl (by kernel_rfl) (by kernel_rfl) (by kernel_rfl) (fun _ _ _ h=>h) (Or.inr ⟨by kernel_rfl,rfl⟩) hHeld ?_
   try simp only[Act.put,List.setIfInBounds_toArray,List.set_cons_zero,List.set_cons_succ]
   refine au (i:=31) (d:=67) (v:=undef) rfl rfl (by kernel_rfl) (by kernel_rfl) (by kernel_rfl) (fun _ _ _ h=>h) (Or.inr ⟨by kernel_rfl,rfl⟩) hHeld ?_
   try simp only[Act.put,List.setIfInBounds_toArray,List.set_cons_zero,List.set_cons_succ]
   refine au (i:=32) (d:=68) (v:=undef) rfl rfl (by kernel_rfl) (by kernel_rfl) (by kernel_rfl) (fun _ _ _ h=>h) (Or.inr ⟨by kernel_rfl,rfl⟩) hHeld ?_
   try simp only[Act.put,List.setIfInBounds_toArray,List.set_cons_zero,List.set_cons_succ]
   refine au (i:=33) (d:=69) (v:=undef) rfl rfl (by kernel_rfl) (by kernel_rfl) (by kernel_rfl) (fun _ _ _ h=>h) (Or.inr ⟨by kernel_rfl,rfl⟩) hHeld ?_
   try simp only[Act.put,List.setIfInBounds_toArray,List.set_cons_zero,List.set_cons_succ]
   refine au (i:=34) (d:=70) (v:=undef) rfl rfl (by kernel_rfl) (by kernel_rfl) (by kernel_rfl) (fun _ _ _ h=>h) (Or.inr ⟨by kernel_rfl,rfl⟩) hHeld ?_
   try simp only[Act.put,List.setIfInBounds_toArray,List.set_cons_zero,List.set_cons_succ]
   refine au (i:=35) (d:=71) (v:=undef) rfl rfl (by kernel_rfl) (by kernel_rfl) (by kernel_rfl) (fun _ _ _ h=>h) (Or.inr ⟨by kernel_rfl,rfl⟩) hHeld ?_
   try simp only[Act.put,List.setIfInBounds_toArray,List.set_cons_zero,List.set_cons_succ]
   refine au (i:=36) (d:=72) (v:=undef) rfl rfl (by kernel_rfl) (by kernel_rfl) (by kernel_rfl) (fun _ _ _ h=>h) (Or.inr ⟨by kernel_rfl,rfl⟩) hHeld ?_
   try simp only[Act.put,List.setIfInBounds_toArray,List.set_cons_zero,List.set_cons_succ]
   refine au (i:=37) (d:=73) (v:=undef) rfl rfl (by kernel_rfl) (by kernel_rfl) (by kernel_rfl) (fun _ _ _ h=>h) (Or.inr ⟨by kernel_rfl,rfl⟩) hHeld ?_
   try simp only[Act.put,List.setIfInBounds_toArray,List.set_cons_zero,List.set_cons_succ]
   refine au (i:=38) (d:=74) (v:=undef) rfl rfl (by kernel_rfl) (by kernel_rfl) (by kernel_rfl) (fun _ _ _ h=>h) (Or.inr ⟨by kernel_rfl,rfl⟩) hHeld ?_
   try simp only[Act.put,List.setIfInBounds_toArray,List.set_cons_zero,List.set_cons_succ]
   refine au (i:=39) (d:=75) (v:=undef) rfl rfl (by kernel_rfl) (by kernel_rfl) (by kernel_rfl) (fun _ _ _ h=>h) (Or.inr ⟨by kernel_rfl,rfl⟩) hHeld ?_
   try simp only[Act.put,List.setIfInBounds_toArray,List.set_cons_zero,List.set_cons_succ]
   refine au (i:=40) (d:=76) (v:=undef) rfl rfl (by kernel_rfl) (by kernel_rfl) (by kernel_rfl) (fun _ _ _ h=>h) (Or.inr ⟨by kernel_rfl,rfl⟩) hHeld ?_
   try simp only[Act.put,List.setIfInBounds_toArray,List.set_cons_zero,List.set_cons_succ]
   refine au (i:=41) (d:=77) (v:=.bool true) rfl rfl (by kernel_rfl) (by kernel_rfl) (by kernel_rfl) (fun _ _ _ h=>h) (Or.inl ⟨by kernel_rfl,fun w9 iq=>by obtain⟨e0,e1,e2,e3,e4⟩:=iq;go_simp⟩) hHeld ?_
   try simp only[Act.put,List.setIfInBounds_toArray,List.set_cons_zero,List.set_cons_succ]
   refine wpAnyH_done (by kernel_rfl) ?_ _
   have HE:=hide (uh HF w4 (uh hB4))
   clear z0 z1 z2 z3 z4
   go_wp2
   exact uh HE
  have dB:decide (500<(vl:Int)+inn)=false:=decide_eq_false hB
  by_cases hC:500<(nE:Int)+inn
  ·have HF:=hide (uh U5 hC)
   have dC:decide (500<(nE:Int)+inn)=true:=decide_eq_true hC
   clear HFA HFB U5 HFD
   go_wp2_with fail
   refine wp_region_held_drew (S:=(fun w'=>w'.cell? ⟨cb,0,none⟩=some (.pointer (some ⟨sb,0,none⟩))∧w'.cell? ⟨cb,1,none⟩=some (.map (some EB))∧w'.cell? ⟨sb,0,none⟩=some (.pointer (some ⟨b,oi,none⟩))∧w'.cell? ⟨sb,1,none⟩=some (.slice oa vl oc)∧w'.cell? ⟨b,oi+4,none⟩=some (.slice ea nE ec))) (by kernel_rfl) (by go_keep) (fun hHeld=>?_)
   refine au (i:=0) (d:=36) (v:=_) rfl rfl (by kernel_rfl) (by kernel_rfl) (by kernel_rfl) (fun _ _ _ h=>h) (Or.inl ⟨by kernel_rfl,fun _ _=>rfl⟩) hHeld ?_
   try simp only[Act.put,List.setIfInBounds_toArray,List.set_cons_zero,List.set_cons_succ]
   refine au (i:=1) (d:=37) (v:=.pointer (some ⟨cb,0,none⟩)) rfl rfl (by kernel_rfl) (by kernel_rfl) (by kernel_rfl) (fun _ _ _ h=>h) (Or.inl ⟨by kernel_rfl,fun w9 iq=>by obtain⟨e0,e1,e2,e3,e4⟩:=iq;go_simp⟩) hHeld ?_
   try simp only[Act.put,List.setIfInBounds_toArray,List.set_cons_zero,List.set_cons_succ]
   refine au (i:=2) (d:=38) (v:=.pointer (some ⟨cb,1,none⟩)) rfl rfl (by kernel_rfl) (by kernel_rfl) (by kernel_rfl) (fun _ _ _ h=>h) (Or.inl ⟨by kernel_rfl,fun w9 iq=>by obtain⟨e0,e1,e2,e3,e4⟩:=iq;go_simp⟩) hHeld ?_
   try simp only[Act.put,List.setIfInBounds_toArray,List.set_cons_zero,List.set_cons_succ]
   refine au (i:=3) (d:=39) (v:=.map (some EB)) rfl rfl (by kernel_rfl) (by kernel_rfl) (by kernel_rfl) (fun _ _ _ h=>h) (Or.inl ⟨by kernel_rfl,fun w9 iq=>by obtain⟨e0,e1,e2,e3,e4⟩:=iq;go_simp⟩) hHeld ?_
   try simp only[Act.put,List.setIfInBounds_toArray,List.set_cons_zero,List.set_cons_succ]
   refine au (i:=4) (d:=40) (v:=_) rfl rfl (by kernel_rfl) (by kernel_rfl) (by kernel_rfl) (fun _ _ _ h=>h) (Or.inl ⟨by kernel_rfl,fun _ _=>rfl⟩) hHeld ?_
   try simp only[Act.put,List.setIfInBounds_toArray,List.set_cons_zero,List.set_cons_succ]
   refine au (i:=5) (d:=41) (v:=.pointer (some ⟨cb,0,none⟩)) rfl rfl (by kernel_rfl) (by kernel_rfl) (by kernel_rfl) (fun _ _ _ h=>h) (Or.inl ⟨by kernel_rfl,fun w9 iq=>by obtain⟨e0,e1,e2,e3,e4⟩:=iq;go_simp⟩) hHeld ?_
   try simp only[Act.put,List.setIfInBounds_toArray,List.set_cons_zero,List.set_cons_succ]
   refine au (i:=6) (d:=42) (v:=.pointer (some ⟨cb,0,none⟩)) rfl rfl (by kernel_rfl) (by kernel_rfl) (by kernel_rfl) (fun _ _ _ h=>h) (Or.inl ⟨by kernel_rfl,fun w9 iq=>by obtain⟨e0,e1,e2,e3,e4⟩:=iq;go_simp⟩) hHeld ?_
   try simp only[Act.put,List.setIfInBounds_toArray,List.set_cons_zero,List.set_cons_succ]
   refine au (i:=7) (d:=43) (v:=.pointer (some ⟨sb,0,none⟩)) rfl rfl (by kernel_rfl) (by kernel_rfl) (by kernel_rfl) (fun _ _ _ h=>h) (Or.inl ⟨by kernel_rfl,fun w9 iq=>by obtain⟨e0,e1,e2,e3,e4⟩:=iq;go_simp⟩) hHeld ?_
   try simp only[Act.put,List.setIfInBounds_toArray,List.set_cons_zero,List.set_cons_succ]
   refine au (i:=8) (d:=44) (v:=.pointer (some ⟨sb,0,none⟩)) rfl rfl (by kernel_rfl) (by kernel_rfl) (by kernel_rfl) (fun _ _ _ h=>h) (Or.inl ⟨by kernel_rfl,fun w9 iq=>by obtain⟨e0,e1,e2,e3,e4⟩:=iq;go_simp⟩) hHeld ?_
   try simp only[Act.put,List.setIfInBounds_toArray,List.set_cons_zero,List.set_cons_succ]
   refine au (i:=9) (d:=45) (v:=.pointer (some ⟨sb,0,none⟩)) rfl rfl (by kernel_rfl) (by kernel_rfl) (by kernel_rfl) (fun _ _ _ h=>h) (Or.inl ⟨by kernel_rfl,fun w9 iq=>by obtain⟨e0,e1,e2,e3,e4⟩:=iq;go_simp⟩) hHeld ?_
   try simp only[Act.put,List.setIfInBounds_toArray,List.set_cons_zero,List.set_cons_succ]
   refine au (i:=10) (d:=46) (v:=.pointer (some ⟨b,oi,none⟩)) rfl rfl (by kernel_rfl) (by kernel_rfl) (by kernel_rfl) (fun _ _ _ h=>h) (Or.inl ⟨by kernel_rfl,fun w9 iq=>by obtain⟨e0,e1,e2,e3,e4⟩:=iq;go_simp⟩) hHeld ?_
   try simp only[Act.put,List.setIfInBounds_toArray,List.set_cons_zero,List.set_cons_succ]
   refine wpAnyH_ready (rs:=[11]) (by kernel_rfl) (by simp) ?_
   refine AllReadyH.cons rfl (fun K hK=>?_) AllReadyH.nil
   go_simp
   refine(uh HWG).mono ?_
   rintro e w4 ⟨rfl,hB4,z0,z1,z2,z3,z4⟩
   refine hK.out _ _ ⟨z0,z1,z2,z3,z4⟩ (fun hHeld=>?_)
   clear hK K
   try simp only[Act.put,List.setIfInBounds_toArray,List.set_cons_zero,List.set_cons_succ]
   refine au (i:=12) (d:=48) (v:=.bool false) rfl rfl (by kernel_rfl) (by kernel_rfl) (by kernel_rfl) (fun _ _ _ h=>h) (Or.inl ⟨by kernel_rfl,fun w9 iq=>by obtain⟨e0,e1,e2,e3,e4⟩:=iq;go_simp⟩) hHeld ?_
   try simp only[Act.put,List.setIfInBounds_toArray,List.set_cons_zero,List.set_cons_succ]
   refine au (i:=13) (d:=49) (v:=_) rfl rfl (by kernel_rfl) (by kernel_rfl) (by kernel_rfl) (fun _ _ _ h=>h) (Or.inl ⟨by kernel_rfl,fun _ _=>rfl⟩) hHeld ?_
   try simp only[Act.put,List.setIfInBounds_toArray,List.set_cons_zero,List.set_cons_succ]
   refine au (i:=14) (d:=50) (v:=_) rfl rfl (by kernel_rfl) (by kernel_rfl) (by kernel_rfl) (fun _ _ _ h=>h) (Or.inl ⟨by kernel_rfl,fun _ _=>rfl⟩) hHeld ?_
   try simp only[Act.put,List.setIfInBounds_toArray,List.set_cons_zero,List.set_cons_succ]
   refine au (i:=15) (d:=51) (v:=.pointer (some ⟨cb,0,none⟩)) rfl rfl (by kernel_rfl) (by kernel_rfl) (by kernel_rfl) (fun _ _ _ h=>h) (Or.inl ⟨by kernel_rfl,fun w9 iq=>by obtain⟨e0,e1,e2,e3,e4⟩:=iq;go_simp⟩) hHeld ?_
   try simp only[Act.put,List.setIfInBounds_toArray,List.set_cons_zero,List.set_cons_succ]
   refine au (i:=16) (d:=52) (v:=.pointer (some ⟨cb,0,none⟩)) rfl rfl (by kernel_rfl) (by kernel_rfl) (by kernel_rfl) (fun _ _ _ h=>h) (Or.inl ⟨by kernel_rfl,fun w9 iq=>by obtain⟨e0,e1,e2,e3,e4⟩:=iq;go_simp⟩) hHeld ?_
   try simp only[Act.put,List.setIfInBounds_toArray,List.set_cons_zero,List.set_cons_succ]
   refine au (i:=17) (d:=53) (v:=.pointer (some ⟨sb,0,none⟩)) rfl rfl (by kernel_rfl) (by kernel_rfl) (by kernel_rfl) (fun _ _ _ h=>h) (Or.inl ⟨by kernel_rfl,fun w9 iq=>by obtain⟨e0,e1,e2,e3,e4⟩:=iq;go_simp⟩) hHeld ?_
   try simp only[Act.put,List.setIfInBounds_toArray,List.set_cons_zero,List.set_cons_succ]
   refine au (i:=18) (d:=54) (v:=.pointer (some ⟨sb,0,none⟩)) rfl rfl (by kernel_rfl) (by kernel_rfl) (by kernel_rfl) (fun _ _ _ h=>h) (Or.inl ⟨by kernel_rfl,fun w9 iq=>by obtain⟨e0,e1,e2,e3,e4⟩:=iq;go_simp⟩) hHeld ?_
   try simp only[Act.put,List.setIfInBounds_toArray,List.set_cons_zero,List.set_cons_succ]
   refine au (i:=19) (d:=55) (v:=.pointer (some ⟨sb,1,none⟩)) rfl rfl (by kernel_rfl) (by kernel_rfl) (by kernel_rfl) (fun _ _ _ h=>h) (Or.inl ⟨by kernel_rfl,fun w9 iq=>by obtain⟨e0,e1,e2,e3,e4⟩:=iq;go_simp⟩) hHeld ?_
   try simp only[Act.put,List.setIfInBounds_toArray,List.set_cons_zero,List.set_cons_succ]
   refine au (i:=20) (d:=56) (v:=.slice oa vl oc) rfl rfl (by kernel_rfl) (by kernel_rfl) (by kernel_rfl) (fun _ _ _ h=>h) (Or.inl ⟨by kernel_rfl,fun w9 iq=>by obtain⟨e0,e1,e2,e3,e4⟩:=iq;go_simp⟩) hHeld ?_
   try simp only[Act.put,List.setIfInBounds_toArray,List.set_cons_zero,List.set_cons_succ]
   refine au (i:=21) (d:=57) (v:=.int .i64 (vl:Int)) rfl rfl (by kernel_rfl) (by kernel_rfl) (by kernel_rfl) (fun _ _ _ h=>h) (Or.inl ⟨by kernel_rfl,fun w9 iq=>by obtain⟨e0,e1,e2,e3,e4⟩:=iq;go_simp⟩) hHeld ?_
   try simp only[Act.put,List.setIfInBounds_toArray,List.set_cons_zero,List.set_cons_succ]
   refine au (i:=22) (d:=58) (v:=_) rfl rfl (by kernel_rfl) (by kernel_rfl) (by kernel_rfl) (fun _ _ _ h=>h) (Or.inl ⟨by kernel_rfl,fun _ _=>rfl⟩) hHeld ?_
   try simp only[Act.put,List.setIfInBounds_toArray,List.set_cons_zero,List.set_cons_succ]
   refine au (i:=23) (d:=59) (v:=.int .i64 ((vl:Int)+inn)) rfl rfl (by kernel_rfl) (by kernel_rfl) (by kernel_rfl) (fun _ _ _ h=>h) (Or.inl ⟨by kernel_rfl,fun w9 iq=>by obtain⟨e0,e1,e2,e3,e4⟩:=iq;go_simp⟩) hHeld ?_
   try simp only[Act.put,List.setIfInBounds_toArray,List.set_cons_zero,List.set_cons_succ]
   refine au (i:=24) (d:=60) (v:=.bool false) rfl rfl (by kernel_rfl) (by kernel_rfl) (by kernel_rfl) (fun _ _ _ h=>h) (Or.inl ⟨by kernel_rfl,fun w9 iq=>by obtain⟨e0,e1,e2,e3,e4⟩:=iq;go_simp⟩) hHeld ?_
   try simp only[Act.put,List.setIfInBounds_toArray,List.set_cons_zero,List.set_cons_succ]
   refine au (i:=25) (d:=61) (v:=.bool false) rfl rfl (by kernel_rfl) (by kernel_rfl) (by kernel_rfl) (fun _ _ _ h=>h) (Or.inl ⟨by kernel_rfl,fun w9 iq=>by obtain⟨e0,e1,e2,e3,e4⟩:=iq;go_simp⟩) hHeld ?_
   try simp only[Act.put,List.setIfInBounds_toArray,List.set_cons_zero,List.set_cons_succ]
   refine au (i:=26) (d:=62) (v:=_) rfl rfl (by kernel_rfl) (by kernel_rfl) (by kernel_rfl) (fun _ _ _ h=>h) (Or.inl ⟨by kernel_rfl,fun _ _=>rfl⟩) hHeld ?_
   try simp only[Act.put,List.setIfInBounds_toArray,List.set_cons_zero,List.set_cons_succ]
   refine au (i:=27) (d:=63) (v:=_) rfl rfl (by kernel_rfl) (by kernel_rfl) (by kernel_rfl) (fun _ _ _ h=>h) (Or.inl ⟨by kernel_rfl,fun _ _=>rfl⟩) hHeld ?_
   try simp only[Act.put,List.setIfInBounds_toArray,List.set_cons_zero,List.set_cons_succ]
   refine au (i:=28) (d:=64) (v:=.pointer (some ⟨cb,0,none⟩)) rfl rfl (by kernel_rfl) (by kernel_rfl) (by kernel_rfl) (fun _ _ _ h=>h) (Or.inl ⟨by kernel_rfl,fun w9 iq=>by obtain⟨e0,e1,e2,e3,e4⟩:=iq;go_simp⟩) hHeld ?_
   try simp only[Act.put,List.setIfInBounds_toArray,List.set_cons_zero,List.set_cons_succ]
   refine au (i:=29) (d:=65) (v:=.pointer (some ⟨cb,0,none⟩)) rfl rfl (by kernel_rfl) (by kernel_rfl) (by kernel_rfl) (fun _ _ _ h=>h) (Or.inl ⟨by kernel_rfl,fun w9 iq=>by obtain⟨e0,e1,e2,e3,e4⟩:=iq;go_simp⟩) hHeld ?_
   try simp only[Act.put,List.setIfInBounds_toArray,List.set_cons_zero,List.set_cons_succ]
   refine au (i:=30) (d:=66) (v:=.pointer (some ⟨sb,0,none⟩)) rfl rfl (by kernel_rfl) (by kernel_rfl) (by kernel_rfl) (fun _ _ _ h=>h) (Or.inl ⟨by kernel_rfl,fun w9 iq=>by obtain⟨e0,e1,e2,e3,e4⟩:=iq;go_simp⟩) hHeld ?_
   try simp only[Act.put,List.setIfInBounds_toArray,List.set_cons_zero,List.set_cons_succ]
   refine au (i:=31) (d:=67) (v:=.pointer (some ⟨sb,0,none⟩)) rfl rfl (by kernel_rfl) (by kernel_rfl) (by kernel_rfl) (fun _ _ _ h=>h) (Or.inl ⟨by kernel_rfl,fun w9 iq=>by obtain⟨e0,e1,e2,e3,e4⟩:=iq;go_simp⟩) hHeld ?_
   try simp only[Act.put,List.setIfInBounds_toArray,List.set_cons_zero,List.set_cons_succ]
   refine au (i:=32) (d:=68) (v:=.pointer (some ⟨sb,0,none⟩)) rfl rfl (by kernel_rfl) (by kernel_rfl) (by kernel_rfl) (fun _ _ _ h=>h) (Or.inl ⟨by kernel_rfl,fun w9 iq=>by obtain⟨e0,e1,e2,e3,e4⟩:=iq;go_simp⟩) hHeld ?_
   try simp only[Act.put,List.setIfInBounds_toArray,List.set_cons_zero,List.set_cons_succ]
   refine au (i:=33) (d:=69) (v:=.pointer (some ⟨b,oi,none⟩)) rfl rfl (by kernel_rfl) (by kernel_rfl) (by kernel_rfl) (fun _ _ _ h=>h) (Or.inl ⟨by kernel_rfl,fun w9 iq=>by obtain⟨e0,e1,e2,e3,e4⟩:=iq;go_simp⟩) hHeld ?_
   try simp only[Act.put,List.setIfInBounds_toArray,List.set_cons_zero,List.set_cons_succ]
   refine au (i:=34) (d:=70) (v:=.pointer (some ⟨b,oi,none⟩)) rfl rfl (by kernel_rfl) (by kernel_rfl) (by kernel_rfl) (fun _ _ _ h=>h) (Or.inl ⟨by kernel_rfl,fun w9 iq=>by obtain⟨e0,e1,e2,e3,e4⟩:=iq;go_simp⟩) hHeld ?_
   try simp only[Act.put,List.setIfInBounds_toArray,List.set_cons_zero,List.set_cons_succ]
   refine au (i:=35) (d:=71) (v:=.pointer (some ⟨b,oi+4,none⟩)) rfl rfl (by kernel_rfl) (by kernel_rfl) (by kernel_rfl) (fun _ _ _ h=>h) (Or.inl ⟨by kernel_rfl,fun w9 iq=>by obtain⟨e0,e1,e2,e3,e4⟩:=iq;go_simp⟩) hHeld ?_
   try simp only[Act.put,List.setIfInBounds_toArray,List.set_cons_zero,List.set_cons_succ]
   refine au (i:=36) (d:=72) (v:=.slice ea nE ec) rfl rfl (by kernel_rfl) (by kernel_rfl) (by kernel_rfl) (fun _ _ _ h=>h) (Or.inl ⟨by kernel_rfl,fun w9 iq=>by obtain⟨e0,e1,e2,e3,e4⟩:=iq;go_simp⟩) hHeld ?_
   try simp only[Act.put,List.setIfInBounds_toArray,List.set_cons_zero,List.set_cons_succ]
   refine au (i:=37) (d:=73) (v:=.int .i64 (nE:Int)) rfl rfl (by kernel_rfl) (by kernel_rfl) (by kernel_rfl) (fun _ _ _ h=>h) (Or.inl ⟨by kernel_rfl,fun w9 iq=>by obtain⟨e0,e1,e2,e3,e4⟩:=iq;go_simp⟩) hHeld ?_
   try simp only[Act.put,List.setIfInBounds_toArray,List.set_cons_zero,List.set_cons_succ]
   refine au (i:=38) (d:=74) (v:=_) rfl rfl (by kernel_rfl) (by kernel_rfl) (by kernel_rfl) (fun _ _ _ h=>h) (Or.inl ⟨by kernel_rfl,fun _ _=>rfl⟩) hHeld ?_
   try simp only[Act.put,List.setIfInBounds_toArray,List.set_cons_zero,List.set_cons_succ]
   refine au (i:=39) (d:=75) (v:=.int .i64 ((nE:Int)+inn)) rfl rfl (by kernel_rfl) (by kernel_rfl) (by kernel_rfl) (fun _ _ _ h=>h) (Or.inl ⟨by kernel_rfl,fun w9 iq=>by obtain⟨e0,e1,e2,e3,e4⟩:=iq;go_simp⟩) hHeld ?_
   try simp only[Act.put,List.setIfInBounds_toArray,List.set_cons_zero,List.set_cons_succ]
   refine au (i:=40) (d:=76) (v:=.bool true) rfl rfl (by kernel_rfl) (by kernel_rfl) (by kernel_rfl) (fun _ _ _ h=>h) (Or.inl ⟨by kernel_rfl,fun w9 iq=>by obtain⟨e0,e1,e2,e3,e4⟩:=iq;go_simp⟩) hHeld ?_
   try simp only[Act.put,List.setIfInBounds_toArray,List.set_cons_zero,List.set_cons_succ]
   refine au (i:=41) (d:=77) (v:=.bool true) rfl rfl (by kernel_rfl) (by kernel_rfl) (by kernel_rfl) (fun _ _ _ h=>h) (Or.inl ⟨by kernel_rfl,fun w9 iq=>by obtain⟨e0,e1,e2,e3,e4⟩:=iq;go_simp⟩) hHeld ?_
   try simp only[Act.put,List.setIfInBounds_toArray,List.set_cons_zero,List.set_cons_succ]
   refine wpAnyH_done (by kernel_rfl) ?_ _
   have HE:=hide (uh HF w4 (uh hB4))
   clear z0 z1 z2 z3 z4
   go_wp2
   exact uh HE
  ·have HF:=hide (uh HFD hA hB hC)
   have dC:decide (500<(nE:Int)+inn)=false:=decide_eq_false hC
   clear HFA HFB U5 HFD
   go_wp2_with fail
   refine wp_region_held_drew (S:=(fun w'=>w'.cell? ⟨cb,0,none⟩=some (.pointer (some ⟨sb,0,none⟩))∧w'.cell? ⟨cb,1,none⟩=some (.map (some EB))∧w'.cell? ⟨sb,0,none⟩=some (.pointer (some ⟨b,oi,none⟩))∧w'.cell? ⟨sb,1,none⟩=some (.slice oa vl oc)∧w'.cell? ⟨b,oi+4,none⟩=some (.slice ea nE ec))) (by kernel_rfl) (by go_keep) (fun hHeld=>?_)
   refine au (i:=0) (d:=36) (v:=_) rfl rfl (by kernel_rfl) (by kernel_rfl) (by kernel_rfl) (fun _ _ _ h=>h) (Or.inl ⟨by kernel_rfl,fun _ _=>rfl⟩) hHeld ?_
   try simp only[Act.put,List.setIfInBounds_toArray,List.set_cons_zero,List.set_cons_succ]
   refine au (i:=1) (d:=37) (v:=.pointer (some ⟨cb,0,none⟩)) rfl rfl (by kernel_rfl) (by kernel_rfl) (by kernel_rfl) (fun _ _ _ h=>h) (Or.inl ⟨by kernel_rfl,fun w9 iq=>by obtain⟨e0,e1,e2,e3,e4⟩:=iq;go_simp⟩) hHeld ?_
   try simp only[Act.put,List.setIfInBounds_toArray,List.set_cons_zero,List.set_cons_succ]
   refine au (i:=2) (d:=38) (v:=.pointer (some ⟨cb,1,none⟩)) rfl rfl (by kernel_rfl) (by kernel_rfl) (by kernel_rfl) (fun _ _ _ h=>h) (Or.inl ⟨by kernel_rfl,fun w9 iq=>by obtain⟨e0,e1,e2,e3,e4⟩:=iq;go_simp⟩) hHeld ?_
   try simp only[Act.put,List.setIfInBounds_toArray,List.set_cons_zero,List.set_cons_succ]
   refine au (i:=3) (d:=39) (v:=.map (some EB)) rfl rfl (by kernel_rfl) (by kernel_rfl) (by kernel_rfl) (fun _ _ _ h=>h) (Or.inl ⟨by kernel_rfl,fun w9 iq=>by obtain⟨e0,e1,e2,e3,e4⟩:=iq;go_simp⟩) hHeld ?_
   try simp only[Act.put,List.setIfInBounds_toArray,List.set_cons_zero,List.set_cons_succ]
   refine au (i:=4) (d:=40) (v:=_) rfl rfl (by kernel_rfl) (by kernel_rfl) (by kernel_rfl) (fun _ _ _ h=>h) (Or.inl ⟨by kernel_rfl,fun _ _=>rfl⟩) hHeld ?_
   try simp only[Act.put,List.setIfInBounds_toArray,List.set_cons_zero,List.set_cons_succ]
   refine au (i:=5) (d:=41) (v:=.pointer (some ⟨cb,0,none⟩)) rfl rfl (by kernel_rfl) (by kernel_rfl) (by kernel_rfl) (fun _ _ _ h=>h) (Or.inl ⟨by kernel_rfl,fun w9 iq=>by obtain⟨e0,e1,e2,e3,e4⟩:=iq;go_simp⟩) hHeld ?_
   try simp only[Act.put,List.setIfInBounds_toArray,List.set_cons_zero,List.set_cons_succ]
   refine au (i:=6) (d:=42) (v:=.pointer (some ⟨cb,0,none⟩)) rfl rfl (by kernel_rfl) (by kernel_rfl) (by kernel_rfl) (fun _ _ _ h=>h) (Or.inl ⟨by kernel_rfl,fun w9 iq=>by obtain⟨e0,e1,e2,e3,e4⟩:=iq;go_simp⟩) hHeld ?_
   try simp only[Act.put,List.setIfInBounds_toArray,List.set_cons_zero,List.set_cons_succ]
   refine au (i:=7) (d:=43) (v:=.pointer (some ⟨sb,0,none⟩)) rfl rfl (by kernel_rfl) (by kernel_rfl) (by kernel_rfl) (fun _ _ _ h=>h) (Or.inl ⟨by kernel_rfl,fun w9 iq=>by obtain⟨e0,e1,e2,e3,e4⟩:=iq;go_simp⟩) hHeld ?_
   try simp only[Act.put,List.setIfInBounds_toArray,List.set_cons_zero,List.set_cons_succ]
   refine au (i:=8) (d:=44) (v:=.pointer (some ⟨sb,0,none⟩)) rfl rfl (by kernel_rfl) (by kernel_rfl) (by kernel_rfl) (fun _ _ _ h=>h) (Or.inl ⟨by kernel_rfl,fun w9 iq=>by obtain⟨e0,e1,e2,e3,e4⟩:=iq;go_simp⟩) hHeld ?_
   try simp only[Act.put,List.setIfInBounds_toArray,List.set_cons_zero,List.set_cons_succ]
   refine au (i:=9) (d:=45) (v:=.pointer (some ⟨sb,0,none⟩)) rfl rfl (by kernel_rfl) (by kernel_rfl) (by kernel_rfl) (fun _ _ _ h=>h) (Or.inl ⟨by kernel_rfl,fun w9 iq=>by obtain⟨e0,e1,e2,e3,e4⟩:=iq;go_simp⟩) hHeld ?_
   try simp only[Act.put,List.setIfInBounds_toArray,List.set_cons_zero,List.set_cons_succ]
   refine au (i:=10) (d:=46) (v:=.pointer (some ⟨b,oi,none⟩)) rfl rfl (by kernel_rfl) (by kernel_rfl) (by kernel_rfl) (fun _ _ _ h=>h) (Or.inl ⟨by kernel_rfl,fun w9 iq=>by obtain⟨e0,e1,e2,e3,e4⟩:=iq;go_simp⟩) hHeld ?_
   try simp only[Act.put,List.setIfInBounds_toArray,List.set_cons_zero,List.set_cons_succ]
   refine wpAnyH_ready (rs:=[11]) (by kernel_rfl) (by simp) ?_
   refine AllReadyH.cons rfl (fun K hK=>?_) AllReadyH.nil
   go_simp
   refine(uh HWG).mono ?_
   rintro e w4 ⟨rfl,hB4,z0,z1,z2,z3,z4⟩
   refine hK.out _ _ ⟨z0,z1,z2,z3,z4⟩ (fun hHeld=>?_)
   clear hK K
   try simp only[Act.put,List.setIfInBounds_toArray,List.set_cons_zero,List.set_cons_succ]
   refine au (i:=12) (d:=48) (v:=.bool false) rfl rfl (by kernel_rfl) (by kernel_rfl) (by kernel_rfl) (fun _ _ _ h=>h) (Or.inl ⟨by kernel_rfl,fun w9 iq=>by obtain⟨e0,e1,e2,e3,e4⟩:=iq;go_simp⟩) hHeld ?_
   try simp only[Act.put,List.setIfInBounds_toArray,List.set_cons_zero,List.set_cons_succ]
   refine au (i:=13) (d:=49) (v:=_) rfl rfl (by kernel_rfl) (by kernel_rfl) (by kernel_rfl) (fun _ _ _ h=>h) (Or.inl ⟨by kernel_rfl,fun _ _=>rfl⟩) hHeld ?_
   try simp only[Act.put,List.setIfInBounds_toArray,List.set_cons_zero,List.set_cons_succ]
   refine au (i:=14) (d:=50) (v:=_) rfl rfl (by kernel_rfl) (by kernel_rfl) (by kernel_rfl) (fun _ _ _ h=>h) (Or.inl ⟨by kernel_rfl,fun _ _=>rfl⟩) hHeld ?_
   try simp only[Act.put,List.setIfInBounds_toArray,List.set_cons_zero,List.set_cons_succ]
   refine au (i:=15) (d:=51) (v:=.pointer (some ⟨cb,0,none⟩)) rfl rfl (by kernel_rfl) (by kernel_rfl) (by kernel_rfl) (fun _ _ _ h=>h) (Or.inl ⟨by kernel_rfl,fun w9 iq=>by obtain⟨e0,e1,e2,e3,e4⟩:=iq;go_simp⟩) hHeld ?_
   try simp only[Act.put,List.setIfInBounds_toArray,List.set_cons_zero,List.set_cons_succ]
   refine au (i:=16) (d:=52) (v:=.pointer (some ⟨cb,0,none⟩)) rfl rfl (by kernel_rfl) (by kernel_rfl) (by kernel_rfl) (fun _ _ _ h=>h) (Or.inl ⟨by kernel_rfl,fun w9 iq=>by obtain⟨e0,e1,e2,e3,e4⟩:=iq;go_simp⟩) hHeld ?_
   try simp only[Act.put,List.setIfInBounds_toArray,List.set_cons_zero,List.set_cons_succ]
   refine au (i:=17) (d:=53) (v:=.pointer (some ⟨sb,0,none⟩)) rfl rfl (by kernel_rfl) (by kernel_rfl) (by kernel_rfl) (fun _ _ _ h=>h) (Or.inl ⟨by kernel_rfl,fun w9 iq=>by obtain⟨e0,e1,e2,e3,e4⟩:=iq;go_simp⟩) hHeld ?_
   try simp only[Act.put,List.setIfInBounds_toArray,List.set_cons_zero,List.set_cons_succ]
   refine au (i:=18) (d:=54) (v:=.pointer (some ⟨sb,0,none⟩)) rfl rfl (by kernel_rfl) (by kernel_rfl) (by kernel_rfl) (fun _ _ _ h=>h) (Or.inl ⟨by kernel_rfl,fun w9 iq=>by obtain⟨e0,e1,e2,e3,e4⟩:=iq;go_simp⟩) hHeld ?_
   try simp only[Act.put,List.setIfInBounds_toArray,List.set_cons_zero,List.set_cons_succ]
   refine au (i:=19) (d:=55) (v:=.pointer (some ⟨sb,1,none⟩)) rfl rfl (by kernel_rfl) (by kernel_rfl) (by kernel_rfl) (fun _ _ _ h=>h) (Or.inl ⟨by kernel_rfl,fun w9 iq=>by obtain⟨e0,e1,e2,e3,e4⟩:=iq;go_simp⟩) hHeld ?_
   try simp only[Act.put,List.setIfInBounds_toArray,List.set_cons_zero,List.set_cons_succ]
   refine au (i:=20) (d:=56) (v:=.slice oa vl oc) rfl rfl (by kernel_rfl) (by kernel_rfl) (by kernel_rfl) (fun _ _ _ h=>h) (Or.inl ⟨by kernel_rfl,fun w9 iq=>by obtain⟨e0,e1,e2,e3,e4⟩:=iq;go_simp⟩) hHeld ?_
   try simp only[Act.put,List.setIfInBounds_toArray,List.set_cons_zero,List.set_cons_succ]
   refine au (i:=21) (d:=57) (v:=.int .i64 (vl:Int)) rfl rfl (by kernel_rfl) (by kernel_rfl) (by kernel_rfl) (fun _ _ _ h=>h) (Or.inl ⟨by kernel_rfl,fun w9 iq=>by obtain⟨e0,e1,e2,e3,e4⟩:=iq;go_simp⟩) hHeld ?_
   try simp only[Act.put,List.setIfInBounds_toArray,List.set_cons_zero,List.set_cons_succ]
   refine au (i:=22) (d:=58) (v:=_) rfl rfl (by kernel_rfl) (by kernel_rfl) (by kernel_rfl) (fun _ _ _ h=>h) (Or.inl ⟨by kernel_rfl,fun _ _=>rfl⟩) hHeld ?_
   try simp only[Act.put,List.setIfInBounds_toArray,List.set_cons_zero,List.set_cons_succ]
   refine au (i:=23) (d:=59) (v:=.int .i64 ((vl:Int)+inn)) rfl rfl (by kernel_rfl) (by kernel_rfl) (by kernel_rfl) (fun _ _ _ h=>h) (Or.inl ⟨by kernel_rfl,fun w9 iq=>by obtain⟨e0,e1,e2,e3,e4⟩:=iq;go_simp⟩) hHeld ?_
   try simp only[Act.put,List.setIfInBounds_toArray,List.set_cons_zero,List.set_cons_succ]
   refine au (i:=24) (d:=60) (v:=.bool false) rfl rfl (by kernel_rfl) (by kernel_rfl) (by kernel_rfl) (fun _ _ _ h=>h) (Or.inl ⟨by kernel_rfl,fun w9 iq=>by obtain⟨e0,e1,e2,e3,e4⟩:=iq;go_simp⟩) hHeld ?_
   try simp only[Act.put,List.setIfInBounds_toArray,List.set_cons_zero,List.set_cons_succ]
   refine au (i:=25) (d:=61) (v:=.bool false) rfl rfl (by kernel_rfl) (by kernel_rfl) (by kernel_rfl) (fun _ _ _ h=>h) (Or.inl ⟨by kernel_rfl,fun w9 iq=>by obtain⟨e0,e1,e2,e3,e4⟩:=iq;go_simp⟩) hHeld ?_
   try simp only[Act.put,List.setIfInBounds_toArray,List.set_cons_zero,List.set_cons_succ]
   refine au (i:=26) (d:=62) (v:=_) rfl rfl (by kernel_rfl) (by kernel_rfl) (by kernel_rfl) (fun _ _ _ h=>h) (Or.inl ⟨by kernel_rfl,fun _ _=>rfl⟩) hHeld ?_
   try simp only[Act.put,List.setIfInBounds_toArray,List.set_cons_zero,List.set_cons_succ]
   refine au (i:=27) (d:=63) (v:=_) rfl rfl (by kernel_rfl) (by kernel_rfl) (by kernel_rfl) (fun _ _ _ h=>h) (Or.inl ⟨by kernel_rfl,fun _ _=>rfl⟩) hHeld ?_
   try simp only[Act.put,List.setIfInBounds_toArray,List.set_cons_zero,List.set_cons_succ]
   refine au (i:=28) (d:=64) (v:=.pointer (some ⟨cb,0,none⟩)) rfl rfl (by kernel_rfl) (by kernel_rfl) (by kernel_rfl) (fun _ _ _ h=>h) (Or.inl ⟨by kernel_rfl,fun w9 iq=>by obtain⟨e0,e1,e2,e3,e4⟩:=iq;go_simp⟩) hHeld ?_
   try simp only[Act.put,List.setIfInBounds_toArray,List.set_cons_zero,List.set_cons_succ]
   refine au (i:=29) (d:=65) (v:=.pointer (some ⟨cb,0,none⟩)) rfl rfl (by kernel_rfl) (by kernel_rfl) (by kernel_rfl) (fun _ _ _ h=>h) (Or.inl ⟨by kernel_rfl,fun w9 iq=>by obtain⟨e0,e1,e2,e3,e4⟩:=iq;go_simp⟩) hHeld ?_
   try simp only[Act.put,List.setIfInBounds_toArray,List.set_cons_zero,List.set_cons_succ]
   refine au (i:=30) (d:=66) (v:=.pointer (some ⟨sb,0,none⟩)) rfl rfl (by kernel_rfl) (by kernel_rfl) (by kernel_rfl) (fun _ _ _ h=>h) (Or.inl ⟨by kernel_rfl,fun w9 iq=>by obtain⟨e0,e1,e2,e3,e4⟩:=iq;go_simp⟩) hHeld ?_
   try simp only[Act.put,List.setIfInBounds_toArray,List.set_cons_zero,List.set_cons_succ]
   refine au (i:=31) (d:=67) (v:=.pointer (some ⟨sb,0,none⟩)) rfl rfl (by kernel_rfl) (by kernel_rfl) (by kernel_rfl) (fun _ _ _ h=>h) (Or.inl ⟨by kernel_rfl,fun w9 iq=>by obtain⟨e0,e1,e2,e3,e4⟩:=iq;go_simp⟩) hHeld ?_
   try simp only[Act.put,List.setIfInBounds_toArray,List.set_cons_zero,List.set_cons_succ]
   refine au (i:=32) (d:=68) (v:=.pointer (some ⟨sb,0,none⟩)) rfl rfl (by kernel_rfl) (by kernel_rfl) (by kernel_rfl) (fun _ _ _ h=>h) (Or.inl ⟨by kernel_rfl,fun w9 iq=>by obtain⟨e0,e1,e2,e3,e4⟩:=iq;go_simp⟩) hHeld ?_
   try simp only[Act.put,List.setIfInBounds_toArray,List.set_cons_zero,List.set_cons_succ]
   refine au (i:=33) (d:=69) (v:=.pointer (some ⟨b,oi,none⟩)) rfl rfl (by kernel_rfl) (by kernel_rfl) (by kernel_rfl) (fun _ _ _ h=>h) (Or.inl ⟨by kernel_rfl,fun w9 iq=>by obtain⟨e0,e1,e2,e3,e4⟩:=iq;go_simp⟩) hHeld ?_
   try simp only[Act.put,List.setIfInBounds_toArray,List.set_cons_zero,List.set_cons_succ]
   refine au (i:=34) (d:=70) (v:=.pointer (some ⟨b,oi,none⟩)) rfl rfl (by kernel_rfl) (by kernel_rfl) (by kernel_rfl) (fun _ _ _ h=>h) (Or.inl ⟨by kernel_rfl,fun w9 iq=>by obtain⟨e0,e1,e2,e3,e4⟩:=iq;go_simp⟩) hHeld ?_
   try simp only[Act.put,List.setIfInBounds_toArray,List.set_cons_zero,List.set_cons_succ]
   refine au (i:=35) (d:=71) (v:=.pointer (some ⟨b,oi+4,none⟩)) rfl rfl (by kernel_rfl) (by kernel_rfl) (by kernel_rfl) (fun _ _ _ h=>h) (Or.inl ⟨by kernel_rfl,fun w9 iq=>by obtain⟨e0,e1,e2,e3,e4⟩:=iq;go_simp⟩) hHeld ?_
   try simp only[Act.put,List.setIfInBounds_toArray,List.set_cons_zero,List.set_cons_succ]
   refine au (i:=36) (d:=72) (v:=.slice ea nE ec) rfl rfl (by kernel_rfl) (by kernel_rfl) (by kernel_rfl) (fun _ _ _ h=>h) (Or.inl ⟨by kernel_rfl,fun w9 iq=>by obtain⟨e0,e1,e2,e3,e4⟩:=iq;go_simp⟩) hHeld ?_
   try simp only[Act.put,List.setIfInBounds_toArray,List.set_cons_zero,List.set_cons_succ]
   refine au (i:=37) (d:=73) (v:=.int .i64 (nE:Int)) rfl rfl (by kernel_rfl) (by kernel_rfl) (by kernel_rfl) (fun _ _ _ h=>h) (Or.inl ⟨by kernel_rfl,fun w9 iq=>by obtain⟨e0,e1,e2,e3,e4⟩:=iq;go_simp⟩) hHeld ?_
   try simp only[Act.put,List.setIfInBounds_toArray,List.set_cons_zero,List.set_cons_succ]
   refine au (i:=38) (d:=74) (v:=_) rfl rfl (by kernel_rfl) (by kernel_rfl) (by kernel_rfl) (fun _ _ _ h=>h) (Or.inl ⟨by kernel_rfl,fun _ _=>rfl⟩) hHeld ?_
   try simp only[Act.put,List.setIfInBounds_toArray,List.set_cons_zero,List.set_cons_succ]
   refine au (i:=39) (d:=75) (v:=.int .i64 ((nE:Int)+inn)) rfl rfl (by kernel_rfl) (by kernel_rfl) (by kernel_rfl) (fun _ _ _ h=>h) (Or.inl ⟨by kernel_rfl,fun w9 iq=>by obtain⟨e0,e1,e2,e3,e4⟩:=iq;go_simp⟩) hHeld ?_
   try simp only[Act.put,List.setIfInBounds_toArray,List.set_cons_zero,List.set_cons_succ]
   refine au (i:=40) (d:=76) (v:=.bool false) rfl rfl (by kernel_rfl) (by kernel_rfl) (by kernel_rfl) (fun _ _ _ h=>h) (Or.inl ⟨by kernel_rfl,fun w9 iq=>by obtain⟨e0,e1,e2,e3,e4⟩:=iq;go_simp⟩) hHeld ?_
   try simp only[Act.put,List.setIfInBounds_toArray,List.set_cons_zero,List.set_cons_succ]
   refine au (i:=41) (d:=77) (v:=.bool false) rfl rfl (by kernel_rfl) (by kernel_rfl) (by kernel_rfl) (fun _ _ _ h=>h) (Or.inl ⟨by kernel_rfl,fun w9 iq=>by obtain⟨e0,e1,e2,e3,e4⟩:=iq;go_simp⟩) hHeld ?_
   try simp only[Act.put,List.setIfInBounds_toArray,List.set_cons_zero,List.set_cons_succ]
   refine wpAnyH_done (by kernel_rfl) ?_ _
   have HE:=hide (uh HF w4 (uh hB4))
   clear z0 z1 z2 z3 z4
   go_wp2
   exact uh HE
end Go.Proofs.YtflcnhfakcgkeaaGreat
