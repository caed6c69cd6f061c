import Derived.Test.YtlcgnbcgmljpaaaGreatStepAll
namespace Go.Proofs.YtlcgnbcgmljpaaaGreat
open Go.RowKit
set_option linter.unusedSimpArgs false
set_option linter.unusedVariables false
set_option maxHeartbeats 1000000 in
theorem amc (t:gy) (w:World) (h:O4 t):Calls Tryz.prog 85 #[.agg #[.string t.name,.int .i64 t.type]] w (Ans (.agg #[.string t.name,.int .i64 t.type]) w):=by
 obtain⟨name,ty⟩:=t
 have hs:=h.1
 clear h
 simp only at hs ⊢
 obtain⟨wA,hwA⟩:∃z,z=(w.alloc (.cells #[.string name,.int .i64 ty] 79)).alloc (.cells #[.string ⟨#[]⟩,.int .i64 0] 79):=⟨_,rfl⟩
 have hA:Below w.heap.size w wA:=by rw[hwA];exact((Below.refl _ w).alloc (Nat.le_refl _) _).alloc (by simp) _
 have hb1:au wA w.heap.size 79 #[.string name,.int .i64 ty]:=by
  rw[hwA]
  have h9:=jl w #[.string name,.int .i64 ty] 79
  exact h9.below ((Below.refl _ _).alloc (Nat.le_refl _) _) h9.lt
 have hb2:au wA (w.heap.size+1) 79 #[.string ⟨#[]⟩,.int .i64 0]:=by
  rw[hwA]
  have h9:=jl (w.alloc (.cells #[.string name,.int .i64 ty] 79)) #[.string ⟨#[]⟩,.int .i64 0] 79
  rw[World.size_alloc] at h9
  exact h9
 have c0:=hb1.cell (i:=0) (v:=.string name) rfl
 have c1:=hb1.cell (i:=1) (v:=.int .i64 ty) rfl
 have HC:Hid (Calls Tryz.prog 83 #[.string name] wA.drew fun e w'=>e=.returned (.string name)∧Hid (Below w.heap.size w w'∧au w' (w.heap.size+1) 79 #[.string ⟨#[]⟩,.int .i64 0])∧w'.cell? ⟨w.heap.size,0,none⟩=some (.string name)∧w'.cell? ⟨w.heap.size,1,none⟩=some (.int .i64 ty)):=by
  refine hide ((V3 name wA.drew hs).mono ?_)
  rintro e w' ⟨rfl,hb⟩
  have jc:Below wA.heap.size wA w':=(Below.refl _ _).drew.trans hb
  have k1:=hb1.below jc hb1.lt
  exact⟨rfl,⟨hA.trans (jc.mono hA.size),hb2.below jc hb2.lt⟩,k1.cell (i:=0) rfl,k1.cell (i:=1) rfl⟩
 clear hs hA hb1 hb2
 go_enter Tryz.func85,Tryz.ntmps85
 go_wp2
 rw[←hwA]
 clear hwA
 go_region_held3 (fun w'=>w'.cell? ⟨w.heap.size,0,none⟩=some (.string name)∧w'.cell? ⟨w.heap.size,1,none⟩=some (.int .i64 ty)) (go_keep) (first|(go_at_call 83;refine(uh HC).mono ?_;rintro e w1 ⟨rfl,HB,d0,d1⟩;have r0:=(uh HB).2.cell (i:=0) (v:=.string ⟨#[]⟩) rfl;have r1:=(uh HB).2.cell (i:=1) (v:=.int .i64 0) rfl;have z0:=(uh HB).2.free 0;have z1:=(uh HB).2.free 1))
 have HF:Hid (Below w.heap.size w ((w1.setCell ⟨w.heap.size+1,0,none⟩ (.string name)).setCell ⟨w.heap.size+1,1,none⟩ (.int .i64 ty))):=hide (((uh HB).1.setCell (by simp) _).setCell (by simp) _)
 have e2:=((uh HB).2.set 0 (.string name)).set 1 (.int .i64 ty)
 have E2:=hide e2
 clear e2 d0 d1 r0 r1 z0 z1 c0 c1
 go_wp2
 have f0:=(uh E2).cell (i:=0) (v:=.string name) rfl
 have f1:=(uh E2).cell (i:=1) (v:=.int .i64 ty) rfl
 exact bodyPost_ret (v:=.agg #[.string name,.int .i64 ty]) (by simp[results,Tryz.results85,go_sem,f0,f1]) rfl ⟨rfl,uh HF⟩
theorem awn (s:ByteArray) (w:World) (h:okS s):Calls Tryz.prog 83 #[.string s] w (Ans (.string s) w):=V3 s w h
set_option maxHeartbeats 2000000 in
theorem amd (xs:List gy) (v:Value) (w:World) (h:bf 2 24 xk 0 w v xs):Calls Tryz.prog 84 #[v,.func (.func 85) #[] #[]] w (ac9 yh O4 xs w):=by
 obtain⟨a,cap,rfl,⟨hbt,_⟩,hn,hx⟩:=h
 unfold Len at hn hbt
 have HX:=hide hx
 have vg:=hide hbt
 clear hx hbt
 go_enter Tryz.func84,Tryz.ntmps84
 go_wp2
 go_loopg [5,10] xs.length (fun g mv i wr=>∃q:Nat,q<=xs.length∧g=xs.length-q∧i=.int .i64 q∧Hid (dw yh wr w.heap.size mv (xs.take q))∧Hid (∀x,x∈xs.take q->O4 x)∧Hid (Below w.heap.size w wr))
 case atStart=>exact⟨0,Nat.zero_le _,by omega,rfl,dw.nil _ _,(fun x hx=>by cases hx),Below.refl _ _⟩
 case round =>
  obtain⟨q,hq,hg,rfl,HO,Hq,HB⟩:=hrel
  have HG:=hide hg
  clear hg
  by_cases hlt:q<xs.length
  ·obtain⟨b,o,cs,rfl,_,hb,hcs,hc,hR⟩:=uh HX q hlt
   have htk:=List.take_succ_eq_append_getElem hlt
   generalize xs[q]=x at hR htk
   have Tz:=hide htk
   clear htk
   obtain⟨rfl,hk1,hk2⟩:=hR
   have c0:=((uh HB).cell (p:=⟨b,_,none⟩) hb).trans (hc 0 (by simp))
   have c1:=((uh HB).cell (p:=⟨b,_,none⟩) hb).trans (hc 1 (by simp))
   clear hc
   have Du:Hid (((xs.take q).length+1)*24<=140737488355328):=by
    have h9:=uh vg
    refine hide ?_
    rw[List.length_take]
    have:min q xs.length+1<=xs.length:=by omega
    exact Nat.le_trans (Nat.mul_le_mul_right _ this) h9
   simp only[Nat.mul_one,Nat.add_zero,List.getElem_cons_zero,List.getElem_cons_succ] at c0 c1
   have Yj:Hid (O4 x):=hide ⟨hk1,hk2⟩
   have hA:Below wr.heap.size wr (wr.alloc (.cells #[.string x.name,.int .i64 x.type] 79)):=(Below.refl _ _).alloc (Nat.le_refl _) _
   have Yk:=hide (amc x (wr.alloc (.cells #[.string x.name,.int .i64 x.type] 79)) (uh Yj))
   have HA:=hide hA
   clear hA hcs
   go_wp2_with fail
   refine(uh Yk).mono ?_
   rintro e w1 ⟨rfl,hb1⟩
   have h1:Below wr.heap.size wr w1:=(uh HA).trans (hb1.mono (uh HA).size)
   have h2:Below w.heap.size w w1:=(uh HB).trans (h1.mono (uh HB).size)
   have hA2:Below w1.heap.size w1 (w1.alloc (.cells #[.string x.name,.int .i64 x.type] 79)):=(Below.refl _ _).alloc (Nat.le_refl _) _
   have Ee:=hide (((uh HO).below h1).below hA2)
   have h3:Below w.heap.size w (w1.alloc (.cells #[.string x.name,.int .i64 x.type] 79)):=h2.trans (hA2.mono h2.size)
   have H3:=hide h3
   have Ef:=hide h3.size
   clear hb1 h1 h2 hA2 h3 c0 c1
   go_wp2_with (at_builtin;go_must (refine l9 yh _ rfl _ _ rfl w.heap.size _ (xs.take q) rfl (uh Ee) w1.heap.size x rfl (fun j u hu=>by rw[World.cell?_alloc_at _ _ _ _ rfl];simpa[yh] using hu) (uh Du) (uh Ef) ?_))
   intro v' w5 Bh hg5 Eh
   have Nw:Hid (dw yh w5 w.heap.size v' (xs.take (q+1))):=by rw[uh Tz];exact hide Bh
   have Xn:Hid (∀x,x∈xs.take (q+1)->O4 x):=by
    rw[uh Tz]
    refine hide (fun y hy=>?_)
    rcases List.mem_append.1 hy with h9|h9
    ·exact uh Hq y h9
    ·rw[List.mem_singleton] at h9;rw[h9];exact uh Yj
   have zo:Hid (Below w.heap.size w w5):=hide ((uh Ee).grown (uh H3) hg5 (uh Ef) (Nat.le_refl _))
   clear Bh hg5 Eh
   go_wp2
   go_roundg (xs.length-(q+1))
   case measure=>have:=uh HG;omega
   case rel=>exact⟨q+1,by omega,rfl,by go_num,Nw,Xn,zo⟩
  ·have e:q=xs.length:=by omega
   rw[e,List.take_length] at HO Hq
   clear e
   obtain⟨oa,oc,hov⟩:=(uh HO).slice
   go_wp2
   go_ret
   exact⟨_,rfl,uh HO,uh Hq,uh HB⟩
set_option maxHeartbeats 2000000 in
theorem apc (xs:List ByteArray) (v:Value) (w:World) (h:bf 1 16 uz 0 w v xs):Calls Tryz.prog 86 #[v,.func (.func 83) #[] #[]] w (ac9 Gw okS xs w):=by
 obtain⟨a,cap,rfl,⟨hbt,_⟩,hn,hx⟩:=h
 unfold Len at hn hbt
 have HX:=hide hx
 have vg:=hide hbt
 clear hx hbt
 go_enter Tryz.func86,Tryz.ntmps86
 go_wp2
 go_loopg [5,10] xs.length (fun g mv i wr=>∃q:Nat,q<=xs.length∧g=xs.length-q∧i=.int .i64 q∧Hid (dw Gw wr w.heap.size mv (xs.take q))∧Hid (∀x,x∈xs.take q->okS x)∧Hid (Below w.heap.size w wr))
 case atStart=>exact⟨0,Nat.zero_le _,by omega,rfl,dw.nil _ _,(fun x hx=>by cases hx),Below.refl _ _⟩
 case round =>
  obtain⟨q,hq,hg,rfl,HO,Hq,HB⟩:=hrel
  have HG:=hide hg
  clear hg
  by_cases hlt:q<xs.length
  ·obtain⟨b,o,cs,rfl,_,hb,hcs,hc,hR⟩:=uh HX q hlt
   have htk:=List.take_succ_eq_append_getElem hlt
   generalize xs[q]=x at hR htk
   have Tz:=hide htk
   clear htk
   obtain⟨rfl,hk1⟩:=hR
   have c0:=((uh HB).cell (p:=⟨b,_,none⟩) hb).trans (hc 0 (by simp))
   clear hc
   have Du:Hid (((xs.take q).length+1)*16<=140737488355328):=by
    have h9:=uh vg
    refine hide ?_
    rw[List.length_take]
    have:min q xs.length+1<=xs.length:=by omega
    exact Nat.le_trans (Nat.mul_le_mul_right _ this) h9
   simp only[Nat.mul_one,Nat.add_zero,List.getElem_cons_zero,List.getElem_cons_succ] at c0
   have Yj:Hid (okS x):=hide hk1
   have hA:Below wr.heap.size wr wr:=Below.refl _ _
   have Yk:=hide (awn x wr (uh Yj))
   have HA:=hide hA
   clear hA hcs
   go_wp2_with fail
   refine(uh Yk).mono ?_
   rintro e w1 ⟨rfl,hb1⟩
   have h1:Below wr.heap.size wr w1:=(uh HA).trans (hb1.mono (uh HA).size)
   have h2:Below w.heap.size w w1:=(uh HB).trans (h1.mono (uh HB).size)
   have hA2:Below w1.heap.size w1 (w1.alloc (.cells #[.string x] 9)):=(Below.refl _ _).alloc (Nat.le_refl _) _
   have Ee:=hide (((uh HO).below h1).below hA2)
   have h3:Below w.heap.size w (w1.alloc (.cells #[.string x] 9)):=h2.trans (hA2.mono h2.size)
   have H3:=hide h3
   have Ef:=hide h3.size
   clear hb1 h1 h2 hA2 h3 c0
   go_wp2_with (at_builtin;go_must (refine l9 Gw _ rfl _ _ rfl w.heap.size _ (xs.take q) rfl (uh Ee) w1.heap.size x rfl (fun j u hu=>by rw[World.cell?_alloc_at _ _ _ _ rfl];simpa[Gw] using hu) (uh Du) (uh Ef) ?_))
   intro v' w5 Bh hg5 Eh
   have Nw:Hid (dw Gw w5 w.heap.size v' (xs.take (q+1))):=by rw[uh Tz];exact hide Bh
   have Xn:Hid (∀x,x∈xs.take (q+1)->okS x):=by
    rw[uh Tz]
    refine hide (fun y hy=>?_)
    rcases List.mem_append.1 hy with h9|h9
    ·exact uh Hq y h9
    ·rw[List.mem_singleton] at h9;rw[h9];exact uh Yj
   have zo:Hid (Below w.heap.size w w5):=hide ((uh Ee).grown (uh H3) hg5 (uh Ef) (Nat.le_refl _))
   clear Bh hg5 Eh
   go_wp2
   go_roundg (xs.length-(q+1))
   case measure=>have:=uh HG;omega
   case rel=>exact⟨q+1,by omega,rfl,by go_num,Nw,Xn,zo⟩
  ·have e:q=xs.length:=by omega
   rw[e,List.take_length] at HO Hq
   clear e
   obtain⟨oa,oc,hov⟩:=(uh HO).slice
   go_wp2
   go_ret
   exact⟨_,rfl,uh HO,uh Hq,uh HB⟩
theorem acv (xs:List iw) (v:Value) (w:World) (h:bf 3 32 tu 0 w v xs):Calls Tryz.prog 115 #[v] w (ac9 Dv okI xs w):=by
 obtain⟨a,c,rfl⟩:=h.shape
 have HM:=hide (ame xs _ w h)
 clear h
 go_enter Tryz.func115,Tryz.ntmps115
 go_wp2_with fail
 refine(uh HM).mono ?_
 rintro e w1 ⟨v1,rfl,ho,hk,hb⟩
 obtain⟨a1,c1,rfl⟩:=ho.slice
 have H:=hide (show ac9 Dv okI xs w (.returned (.slice a1 xs.length c1)) w1 from ⟨_,rfl,ho,hk,hb⟩)
 clear ho hk hb
 go_wp2
 go_ret
 exact uh H
theorem awo:∀(w:World) (cs:List Value) (x:Int),yu 0 w cs x->cs=Hw.f x:=fun _ _ _ h=>h.1
set_option maxRecDepth 100000 in
set_option maxHeartbeats 1000000 in
theorem ahy (xs:List Int) (v:Value) (w:World) (h:bf 1 8 yu 0 w v xs):Calls Tryz.prog 87 #[v] w (ac9 Hw I64 xs w):=by
 have hok:∀x,x∈xs->I64 x:=fun x hx=>by
  obtain⟨i,hi,rfl⟩:=List.mem_iff_getElem.1 hx
  obtain⟨a,cap,_,_,_,hx⟩:=h
  obtain⟨b,o,cs,_,_,_,_,_,hR⟩:=hx i hi
  exact hR.2
 have Hq:=hide hok
 clear hok
 obtain⟨a,cap,hv,hl,hl2,hx⟩:=h
 cases a with
 | none =>
  have h0:xs=[]:=by
   cases xs with
   | nil=>rfl
   | cons x xs =>
    obtain⟨b,o,cs,hh,_⟩:=hx 0 (by simp)
    cases hh
  subst h0 hv
  clear hx hl hl2
  have hq:(binOp .eql 41 (.slice none 0 cap) (.slice none 0 0)).run Tryz.prog w=.ok (.bool true) w:=Lib.run_eql_slice_nil w 41 3 none 0 cap 0 0 Tryz.underlying41
  simp only[List.length_nil]
  go_enter Tryz.func87,Tryz.ntmps87
  go_wp2
  go_ret
  exact⟨_,rfl,dw.nil _ _,uh Hq,Below.refl _ _⟩
 | some ad =>
  subst hv
  have hA:Below w.heap.size w (w.alloc (.cells #[] 3)):=(Below.refl _ _).alloc (Nat.le_refl _) _
  have hs:bf 1 8 yu 0 w (.slice (some ad) xs.length cap) xs:=⟨_,_,rfl,hl,hl2,hx⟩
  have HS:=hide (hs.stays jy hA)
  have HO:=hide (dw.start (E:=Hw) w w.heap.size (Nat.le_refl _))
  have hl1:=hl.1
  unfold Len at hl1
  have HL:Hid ((([]:List Int).length+xs.length)*8<=140737488355328):=by refine hide ?_;simp only[List.length_nil,Nat.zero_add];exact hl1
  have HA:=hide hA
  have hq:(binOp .eql 41 (.slice (some ad) xs.length cap) (.slice none 0 0)).run Tryz.prog w=.ok (.bool false) w:=Lib.run_eql_slice_nil w 41 3 (some ad) xs.length cap 0 0 Tryz.underlying41
  clear hx hl hl2 hs hA hl1
  go_enter Tryz.func87,Tryz.ntmps87
  go_wp2_with (at_builtin;go_must (refine qw Hw awo _ rfl _ _ rfl w.heap.size w.heap.size 0 [] rfl (uh HO) _ rfl xs (uh HS) (uh HL) (by simp) ?_))
  intro g' cap' w5 ho hg
  have zo:=hide ((uh HO).grown (uh HA) hg (by simp) (Nat.le_refl _))
  have Nw:=hide ho
  clear ho hg
  go_wp2
  go_ret
  exact⟨_,rfl,uh Nw,uh Hq,uh zo⟩
def uf {α:Type} {sz:Nat} (E:wo Tryz.prog (Raw sz)) (R:World->List Value->α->List Nat->Prop) (B:Nat) (w:World) (v:Value) (xs:List α) (bs:List Nat):Prop :=
 ∃(css:List (Raw sz)) (subs:List (List Nat)),dw E w B v css∧css.length*E.jh<=140737488355328∧zn (fun c x s=>R w c.1 x s) css xs subs∧bs=gu v++subs.flatten∧bs.Nodup∧∀b,b∈bs->B<=b∧b<w.heap.size
def MkP {α:Type} {sz:Nat} (E:wo Tryz.prog (Raw sz)) (R:World->List Value->α->List Nat->Prop) (xs:List α) (w:World) (e:Ending) (w':World):Prop:=∃v bs,e=.returned v∧uf E R w.heap.size w' v xs bs∧Below w.heap.size w w'
theorem uf.nil {α:Type} {sz:Nat} (E:wo Tryz.prog (Raw sz)) (R:World->List Value->α->List Nat->Prop) (B:Nat) (w:World):uf E R B w (.slice none 0 0) [] [] :=
 ⟨[],[],dw.nil _ _,by simp,.nil,rfl,List.nodup_nil,fun b hb=>by cases hb⟩
theorem uf.rowT {α:Type} {sz:Nat} {E:wo Tryz.prog (Raw sz)} {R:World->List Value->α->List Nat->Prop} {B:Nat} {w:World} {v:Value} {xs:List α} {bs:List Nat} (h:uf E R B w v xs bs):C9 E R w v xs bs:=by
 obtain⟨css,subs,h1,h2,h3,h4,_⟩:=h
 exact⟨css,subs,h1.low (Nat.zero_le _),h2,h3,h4⟩
theorem uf.slice {α:Type} {sz:Nat} {E:wo Tryz.prog (Raw sz)} {R:World->List Value->α->List Nat->Prop} {B:Nat} {w:World} {v:Value} {xs:List α} {bs:List Nat} (h:uf E R B w v xs bs):∃a cap,v=.slice a xs.length cap:=by
 obtain⟨css,subs,h1,h2,h3,_⟩:=h
 rw[←h3.len.1]
 exact h1.slice
theorem uf.nd {α:Type} {sz:Nat} {E:wo Tryz.prog (Raw sz)} {R:World->List Value->α->List Nat->Prop} {B:Nat} {w:World} {v:Value} {xs:List α} {bs:List Nat} (h:uf E R B w v xs bs):bs.Nodup∧∀b,b∈bs->B<=b∧b<w.heap.size:=by
 obtain⟨css,subs,_,_,_,_,h1,h2⟩:=h
 exact⟨h1,h2⟩
theorem uf.fr {α:Type} {sz:Nat} {E:wo Tryz.prog (Raw sz)} {R:World->List Value->α->List Nat->Prop} (hR:Zj R) {B:Nat} {w w':World} {v:Value} {xs:List α} {bs:List Nat} (h:uf E R B w v xs bs) (hf:Fr bs w w') (hz:w.heap.size<=w'.heap.size):uf E R B w' v xs bs:=by
 obtain⟨css,subs,h1,h2,h3,rfl,h4,h5⟩:=h
 exact⟨css,subs,h1.Ai (fun b hb=>hf b (List.mem_append_left _ (iq.2 hb))),h2,h3.mono (fun c x s _ _ hs h9=>hR _ _ _ _ _ h9 (fun b hb=>hf b (List.mem_append_right _ (List.mem_flatten.2 ⟨s,hs,hb⟩)))),rfl,h4,fun b hb=>⟨(h5 b hb).1,Nat.lt_of_lt_of_le (h5 b hb).2 hz⟩⟩
theorem Zk {α:Type} {sz:Nat} {E:wo Tryz.prog (Raw sz)} {R:World->List Value->α->List Nat->Prop} (hR:Zj R) {B:Nat} {w:World} {v:Value} {css:List (Raw sz)} {ys:List α} {subs:List (List Nat)} (ho:dw E w B v css) (h3:zn (fun c x s=>R w c.1 x s) css ys subs) (hn:(gu v++subs.flatten).Nodup) (hb:∀b,b∈gu v++subs.flatten->B<=b∧b<w.heap.size)
  {w1 wA w5:World} (h1:Below w.heap.size w w1) (hA:Below w1.heap.size w1 wA) {c:Raw sz} {y:α} {s:List Nat} (hc:R w1 c.1 y s) (hs:s.Nodup) (hsb:∀b,b∈s->w.heap.size<=b∧b<w1.heap.size) (hBw:B<=w.heap.size) {v':Value} (Bh:dw E w5 B v' (css++[c])) (hg5:wA.grownBy w5 v.ownBlock) (Eh:∀b,v'.ownBlock=some b->v.ownBlock=some b∨wA.heap.size<=b) (hl:(css++[c]).length*E.jh<=140737488355328) :
  uf E R B w5 v' (ys++[y]) (gu v'++(subs++[s]).flatten):=by
 have hz1:=h1.size
 have hzA:=hA.size
 have hz5:=hg5.size
 obtain⟨hn1,hn2,hn3⟩:(gu v).Nodup∧subs.flatten.Nodup∧∀x,x∈gu v->x∉subs.flatten:=by
  rw[List.nodup_append] at hn
  exact⟨hn.1,hn.2.1,fun x g1 g2=>hn.2.2 x g1 x g2 rfl⟩
 have e9:(subs++[s]).flatten=subs.flatten++s:=by simp
 have hsub:∀b,b∈subs.flatten->B<=b∧b<w.heap.size:=fun b jc=>hb b (List.mem_append_right _ jc)
 have axr:∀b,v.ownBlock=some b->b<w.heap.size:=fun b jc=>(hb b (List.mem_append_left _ (iq.2 jc))).2
 have hold:∀b,b<w.heap.size->v.ownBlock≠some b->w5.heap[b]?=w.heap[b]?:=fun b jc hne=>(hg5.block b (by omega) (fun e=>hne e.symm)).trans ((hA.block b (by omega)).trans (h1.block b jc))
 refine⟨css++[c],subs++[s],Bh,hl,(h3.mono (fun c x s' _ _ hs' h9=>hR _ _ _ _ _ h9 (fun b jc=>?_))).app (.cons (hR _ _ _ _ _ hc (fun b jc=>?_)) .nil),rfl,?_,?_⟩
 ·have hm:b∈subs.flatten:=List.mem_flatten.2 ⟨s',hs',jc⟩
  exact hold b (hsub b hm).2 (fun e=>hn3 b (iq.2 e) hm)
 ·have h9:=hsb b jc
  exact(hg5.block b (by omega) (fun e=>by have:=axr b e.symm;omega)).trans (hA.block b h9.2)
 ·rw[e9,List.nodup_append,List.nodup_append]
  refine⟨?_,⟨hn2,hs,fun x g1 y9 g2 e=>?_⟩,fun x g1 y9 g2 e=>?_⟩
  ·unfold gu
   cases v'.ownBlock<;>simp
  ·subst e
   have:=(hsub x g1).2
   have:=(hsb x g2).1
   omega
  ·subst e
   rcases Eh x (iq.1 g1) with g3|g3
   ·rcases List.mem_append.1 g2 with g4|g4
    ·exact hn3 x (iq.2 g3) g4
    ·have:=axr x g3
     have:=(hsb x g4).1
     omega
   ·rcases List.mem_append.1 g2 with g4|g4
    ·have:=(hsub x g4).2
     omega
    ·have:=(hsb x g4).2
     omega
 ·intro b jc
  rw[e9] at jc
  rcases List.mem_append.1 jc with g1|g1
  ·have h9:=World.ownsRow.lt Bh b (iq.1 g1)
   exact h9
  ·rcases List.mem_append.1 g1 with g2|g2
   ·have:=hsub b g2
    exact⟨this.1,by omega⟩
   ·have:=hsb b g2
    exact⟨by omega,by omega⟩
def axt (x:List iw) (W:World) (e:Ending) (w':World):Prop:=∃ia ic s,e=.returned (.slice ia x.length ic)∧Hid (Dw w' [.slice ia x.length ic] x s∧s.Nodup∧(∀b,b∈s->W.heap.size<=b)∧(∀b,b∈s->b<w'.heap.size)∧Below W.heap.size W w')
theorem agf {α:Type} {E:wo Tryz.prog α} {ok:α->Prop} {xs:List α} {w w':World} {v:Value} (ho:dw E w' w.heap.size v xs) (hk:∀x,x∈xs->ok x) (hl:xs.length*E.jh<=140737488355328):zf E ok w' v xs (gu v)∧(gu v).Nodup∧(∀b,b∈gu v->w.heap.size<=b)∧∀b,b∈gu v->b<w'.heap.size :=
 ⟨⟨ho.low (Nat.zero_le _),hk,hl,rfl⟩,by unfold gu;cases v.ownBlock<;>simp,fun b hb=>(World.ownsRow.lt ho b (iq.1 hb)).1,fun b hb=>(World.ownsRow.lt ho b (iq.1 hb)).2⟩
theorem amf (x:List iw) (v:Value) (w:World) (h:bf 3 32 tu 0 w v x):Calls Tryz.prog 115 #[v] w (axt x w):=by
 refine(acv x v w h).mono ?_
 rintro e w' ⟨v',rfl,ho,hk,hb⟩
 obtain⟨a1,c1,rfl⟩:=ho.slice
 obtain⟨g1,g2,g3,g4⟩:=agf ho hk h.jh
 exact⟨a1,c1,_,rfl,⟨_,rfl,g1⟩,g2,g3,g4,hb⟩
set_option maxHeartbeats 4000000 in
theorem aki (xs:List (List iw)) (v:Value) (w:World) (h:bf 1 24 vw 0 w v xs):Calls Tryz.prog 116 #[v,.func (.func 115) #[] #[]] w (MkP Fg Dw xs w):=by
 obtain⟨a,cap,rfl,⟨hbt,_⟩,hn,hx⟩:=h
 unfold Len at hn hbt
 have HX:=hide hx
 have vg:=hide hbt
 clear hx hbt
 go_enter Tryz.func116,Tryz.ntmps116
 go_wp2
 go_loopg [5,10] xs.length (fun g mv i wr=>∃q:Nat,q<=xs.length∧g=xs.length-q∧i=.int .i64 q∧Hid (∃bs,uf Fg Dw w.heap.size wr mv (xs.take q) bs)∧Hid (Below w.heap.size w wr))
 case atStart=>exact⟨0,Nat.zero_le _,by omega,rfl,⟨_,uf.nil _ _ _ _⟩,Below.refl _ _⟩
 case round =>
  obtain⟨q,hq,hg,rfl,HO,HB⟩:=hrel
  have HG:=hide hg
  clear hg
  by_cases hlt:q<xs.length
  ·obtain⟨b,o,cs,rfl,_,hb,hcs,hc,hR⟩:=uh HX q hlt
   have htk:=List.take_succ_eq_append_getElem hlt
   generalize xs[q]=x at hR htk
   have Tz:=hide htk
   clear htk
   have hR:=xq _ _ _ _ _ (Kept.of_below ((uh HB).mono (Nat.le_refl _))) hR
   obtain⟨v0,rfl,hk1⟩:=hR
   obtain⟨ea,ec,rfl⟩:=hk1.shape
   have c0:=((uh HB).cell (p:=⟨b,_,none⟩) hb).trans (hc 0 (by simp))
   clear hc
   simp only[Nat.mul_one,Nat.add_zero,List.getElem_cons_zero,List.getElem_cons_succ] at c0
   have hA:Below wr.heap.size wr wr:=Below.refl _ _
   have Yk:=hide (amf x _ wr hk1)
   have HA:=hide hA
   clear hA hcs hk1
   go_wp2_with fail
   refine(uh Yk).mono ?_
   rintro e w1 ⟨ia,ic,s,rfl,HV⟩
   obtain⟨bs,css,subs,ho,hbl,h3,rfl,hnd,hbd⟩:=uh HO
   obtain⟨hv1,hv2,hv3,hv4,hv5⟩:=uh HV
   have h1:Below wr.heap.size wr w1:=(uh HA).trans (hv5.mono (uh HA).size)
   have h2:Below w.heap.size w w1:=(uh HB).trans (h1.mono (uh HB).size)
   have hA2:Below w1.heap.size w1 (w1.alloc (.cells #[.slice ia x.length ic] 57)):=(Below.refl _ _).alloc (Nat.le_refl _) _
   have Ee:=hide ((ho.below h1).below hA2)
   have h4:Below w.heap.size w (w1.alloc (.cells #[.slice ia x.length ic] 57)):=h2.trans (hA2.mono h2.size)
   have H4:=hide h4
   have Es:=hide h4.size
   have hlen:=h3.len
   have Du:Hid ((css.length+1)*24<=140737488355328):=by
    have h9:=uh vg
    refine hide ?_
    rw[hlen.1,List.length_take]
    have:min q xs.length+1<=xs.length:=by omega
    exact Nat.le_trans (Nat.mul_le_mul_right _ this) h9
   obtain⟨c,hcv⟩:∃c:Raw 1,c.1=[.slice ia x.length ic]:=⟨⟨[.slice ia x.length ic],by simp,by intro u hu;simp only[List.mem_cons,List.not_mem_nil,or_false] at hu;rcases hu with rfl<;>rfl⟩,rfl⟩
   have J9:=hide hcv
   have Il:Hid (∀v' w5,dw Fg w5 w.heap.size v' (css++[c])->(w1.alloc (.cells #[.slice ia x.length ic] 57)).grownBy w5 u5.ownBlock->(∀b,v'.ownBlock=some b->u5.ownBlock=some b∨(w1.alloc (.cells #[.slice ia x.length ic] 57)).heap.size<=b)->∃bs,uf Fg Dw w.heap.size w5 v' (xs.take (q+1)) bs):=by
    refine hide (fun v' w5 k1 k2 k3=>?_)
    rw[uh Tz]
    exact⟨_,Zk Pm ho h3 hnd hbd h1 hA2 (c:=c) (y:=x) (s:=s) (by rw[uh J9];exact hv1) hv2 (fun b jc=>⟨Nat.le_trans (uh HA).size (hv3 b jc),hv4 b jc⟩) (uh HB).size k1 k2 k3 (by rw[List.length_append];exact uh Du)⟩
   clear hcv hv1 hv2 hv3 hv4 hv5 ho hbl h3 hnd hbd h1 h2 hA2 h4 hlen c0
   go_wp2_with (at_builtin;go_must (refine l9 Fg _ rfl _ _ rfl w.heap.size _ css rfl (uh Ee) w1.heap.size c rfl (fun j u hu=>by rw[World.cell?_alloc_at _ _ _ _ rfl];have hu':c.1[j]?=some u:=hu;rw[uh J9] at hu';simpa using hu') (uh Du) (uh Es) ?_))
   intro v' w5 Bh hg5 Eh
   have Nw:Hid (∃bs,uf Fg Dw w.heap.size w5 v' (xs.take (q+1)) bs):=hide (uh Il v' w5 Bh hg5 (by simpa using Eh))
   have zo:Hid (Below w.heap.size w w5):=hide ((uh Ee).grown (uh H4) hg5 (uh Es) (Nat.le_refl _))
   clear Bh hg5 Eh
   go_wp2
   go_roundg (xs.length-(q+1))
   case measure=>have:=uh HG;omega
   case rel=>exact⟨q+1,by omega,rfl,by go_num,Nw,zo⟩
  ·have e:q=xs.length:=by omega
   rw[e,List.take_length] at HO
   clear e
   obtain⟨bs,hmr⟩:=uh HO
   obtain⟨oa,oc,hov⟩:=hmr.slice
   have HM:=hide hmr
   clear hmr
   go_wp2
   go_ret
   exact⟨_,bs,rfl,uh HM,uh HB⟩
end Go.Proofs.YtlcgnbcgmljpaaaGreat
