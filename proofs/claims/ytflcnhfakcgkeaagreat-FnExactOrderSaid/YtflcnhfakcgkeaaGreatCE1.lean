import Derived.Test.YtflcnhfakcgkeaaGreatC8
import Derived.Test.YtflcnhfakcgkeaaGreatC5
import Derived.Test.YtflcnhfakcgkeaaGreatCR1
import Derived.Test.YtflcnhfakcgkeaaGreatWI3
import Derived.Test.YtflcnhfakcgkeaaGreatCS31
import Derived.Test.YtflcnhfakcgkeaaGreatApp
namespace Go.Proofs.YtflcnhfakcgkeaaGreat
open Go.RowKit
set_option linter.unusedSimpArgs false
set_option linter.unusedVariables false
def Nc (vs:List gy) (code:List eu):Int:=fdV (ny vs) code code.length
def Ol (vs:List gy) (code:List eu) (ks:List cu):Bool:=fdV (α:=Ctx) (l9 vs) code code.length ks
def Ei (vs:List gy) (codes:List (List eu)) (ts:List Int):Nat->Bool
 | 0=>true
 | k+1=>Ei vs codes ts k&&(match codes[k]?,ts[k]? with|some c,some t=>Nc vs c == t|_,_=>true)
def Cm (vs:List gy) (lhs:List ByteArray) (ts:List Int):Nat->Bool
 | 0=>true
 | k+1=>Cm vs lhs ts k&&(match lhs[k]?,ts[k]? with|some x,some t=>(jg vs x).type == t|_,_=>true)
def Em (vs:List gy) (lhs:List ByteArray) (ck:List cu):Nat->Bool
 | 0=>true
 | k+1=>Em vs lhs ck k&&(match lhs[k]? with|some x=>qj (jv vs x) ck|_=>true)
def E8 (vs:List gy) (codes:List (List eu)) (ck:List cu):Nat->Bool
 | 0=>true
 | k+1=>E8 vs codes ck k&&(match codes[k]? with|some c=>Ol vs c ck|_=>true)
def Iw (vs:List gy) (e:qg) (its Fv:List Int) (ck:List cu):Int :=
 if Ei vs (dw e) its (dw e).length=false then 6
 else if Cm vs e.lhs Fv e.lhs.length=false then 6
 else if Em vs e.lhs ck e.lhs.length=false then 7
 else if E8 vs (dw e) ck (dw e).length=false then 7
 else 0
def uj (vs:List gy) (e:qg):gy:=jg vs (e.lhs.headD ⟨#[]⟩)
def Aw (ns:List ay) (i:Nat) (vs:List gy) (e:qg):Int :=
 if e.call.size=0 then Iw vs e [(uj vs e).type] [(uj vs e).type] (uj vs e).clock
 else match ns[(jh ns i e.call).toNat]? with
  | some g=>if jh ns i e.call<0∨g.ins.length≠e.args.length∨g.outs.length≠e.lhs.length then 5 else Iw vs e (g.ins.map (·.type)) (g.outs.map (·.type)) (uj vs e).clock
  | none=>5
theorem adw {f:Nat->Bool} {g:Nat->Bool} (h:∀k,f (k+1)=(f k&&g k)) (n k:Nat) (hk:k<n) (hg:g k=false):f n=false:=by
 induction n with
 | zero=>omega
 | succ n ih =>
  rw[h]
  by_cases e:k=n
  ·subst e;rw[hg,Bool.and_false]
  ·rw[ih (by omega),Bool.false_and]
theorem adx (vs:List gy) (codes:List (List eu)) (ts:List Int) (k:Nat) (h1:k<codes.length) (h2:k<ts.length) (h:Nc vs codes[k]≠ts[k]):Ei vs codes ts codes.length=false :=
 adw (fun _=>rfl) _ k h1 (by rw[List.getElem?_eq_getElem h1,List.getElem?_eq_getElem h2];simpa using h)
theorem ae2 (vs:List gy) (codes:List (List eu)) (ts:List Int) (k:Nat) (h1:k<codes.length) (h2:k<ts.length) (h0:Ei vs codes ts k=true) (h:Nc vs codes[k]=ts[k]):Ei vs codes ts (k+1)=true:=by
 unfold Ei
 rw[h0,List.getElem?_eq_getElem h1,List.getElem?_eq_getElem h2]
 simpa using h
theorem ae3 (vs:List gy) (lhs:List ByteArray) (ts:List Int) (k:Nat) (h1:k<lhs.length) (h2:k<ts.length) (h:(jg vs lhs[k]).type≠ts[k]):Cm vs lhs ts lhs.length=false :=
 adw (fun _=>rfl) _ k h1 (by rw[List.getElem?_eq_getElem h1,List.getElem?_eq_getElem h2];simpa using h)
theorem aci (vs:List gy) (lhs:List ByteArray) (ts:List Int) (k:Nat) (h1:k<lhs.length) (h2:k<ts.length) (h0:Cm vs lhs ts k=true) (h:(jg vs lhs[k]).type=ts[k]):Cm vs lhs ts (k+1)=true:=by
 unfold Cm
 rw[h0,List.getElem?_eq_getElem h1,List.getElem?_eq_getElem h2]
 simpa using h
theorem abk (vs:List gy) (lhs:List ByteArray) (ck:List cu) (k:Nat) (h1:k<lhs.length) (h:qj (jv vs lhs[k]) ck=false):Em vs lhs ck lhs.length=false :=
 adw (fun _=>rfl) _ k h1 (by rw[List.getElem?_eq_getElem h1];exact h)
theorem acj (vs:List gy) (lhs:List ByteArray) (ck:List cu) (k:Nat) (h1:k<lhs.length) (h0:Em vs lhs ck k=true) (h:qj (jv vs lhs[k]) ck=true):Em vs lhs ck (k+1)=true:=by
 unfold Em
 rw[h0,List.getElem?_eq_getElem h1]
 exact h
theorem ae4 (vs:List gy) (codes:List (List eu)) (ck:List cu) (k:Nat) (h1:k<codes.length) (h:Ol vs codes[k] ck=false):E8 vs codes ck codes.length=false :=
 adw (fun _=>rfl) _ k h1 (by rw[List.getElem?_eq_getElem h1];exact h)
theorem acn (vs:List gy) (codes:List (List eu)) (ck:List cu) (k:Nat) (h1:k<codes.length) (h0:E8 vs codes ck k=true) (h:Ol vs codes[k] ck=true):E8 vs codes ck (k+1)=true:=by
 unfold E8
 rw[h0,List.getElem?_eq_getElem h1]
 exact h
def ae5 (w:World) (v:Value) (ts:List Int):Prop:=∃a cap,v=.slice a ts.length cap∧∀k (hk:k<ts.length),∃b o,a=some ⟨b,o,none⟩∧b<w.heap.size∧w.cell? ⟨b,o+k*3+1,none⟩=some (.int .i64 ts[k])
theorem ae5.stays {w w':World} {v:Value} {ts:List Int} (h:ae5 w v ts) (hb:Below w.heap.size w w'):ae5 w' v ts:=by
 obtain⟨a,cap,hv,hx⟩:=h
 refine⟨a,cap,hv,fun k hk=>?_⟩
 obtain⟨b,o,ha,hlt,hc⟩:=hx k hk
 exact⟨b,o,ha,Nat.lt_of_lt_of_le hlt hb.size,by rw[hb.cell (p:=⟨b,_,none⟩) hlt];exact hc⟩
theorem avj {w:World} {v:Value} {xs:List gy} (h:bf 3 48 RVar 0 w v xs):ae5 w v (xs.map (·.type)):=by
 obtain⟨a,cap,rfl,_,_,hx⟩:=h
 refine⟨a,cap,by rw[List.length_map],fun k hk=>?_⟩
 rw[List.length_map] at hk
 obtain⟨b,o,cs,ha,_,hlt,_,hc,⟨cl,rfl,_⟩⟩:=hx k hk
 refine⟨b,o,ha,hlt,?_⟩
 have:=hc 1 (by simp)
 simpa using this
theorem ady (vs:List gy) (e:qg) (its Fv:List Int) (ck:List cu) :
  (Ei vs (dw e) its (dw e).length=false->Iw vs e its Fv ck=6) ∧
  (Ei vs (dw e) its (dw e).length=true->Cm vs e.lhs Fv e.lhs.length=false->Iw vs e its Fv ck=6) ∧
  (Ei vs (dw e) its (dw e).length=true->Cm vs e.lhs Fv e.lhs.length=true->Em vs e.lhs ck e.lhs.length=false->Iw vs e its Fv ck=7) ∧
  (Ei vs (dw e) its (dw e).length=true->Cm vs e.lhs Fv e.lhs.length=true->Em vs e.lhs ck e.lhs.length=true->E8 vs (dw e) ck (dw e).length=false->Iw vs e its Fv ck=7) ∧
  (Ei vs (dw e) its (dw e).length=true->Cm vs e.lhs Fv e.lhs.length=true->Em vs e.lhs ck e.lhs.length=true->E8 vs (dw e) ck (dw e).length=true->Iw vs e its Fv ck=0):=by
 unfold Iw
 refine⟨fun h=>by rw[if_pos h],fun h1 h=>by rw[h1,if_neg (by simp),if_pos h],fun h1 h2 h=>by rw[h1,if_neg (by simp),h2,if_neg (by simp),if_pos h],fun h1 h2 h3 h=>by rw[h1,if_neg (by simp),h2,if_neg (by simp),h3,if_neg (by simp),if_pos h],fun h1 h2 h3 h=>by rw[h1,if_neg (by simp),h2,if_neg (by simp),h3,if_neg (by simp),h,if_neg (by simp)]⟩
theorem ax0 {w:World} (t:Int) (T:TypeId):ae5 (w.alloc (.cells #[.string ⟨#[]⟩,.int .i64 t,.slice none 0 0] T)) (.slice (some ⟨w.heap.size,0,none⟩) 1 1) [t]:=by
 refine⟨_,1,rfl,fun k hk=>⟨w.heap.size,0,rfl,by simp,?_⟩⟩
 obtain rfl:k=0:=by simpa using hk
 rw[World.cell?_alloc_at _ _ _ _ rfl]
 rfl
def Kr (ns:List ay) (i:Nat) (vs:List gy) (e:qg):Bool :=
 if e.call.size=0 then Nc vs e.code == (uj vs e).type
 else match ns[(jh ns i e.call).toNat]? with
  | some g=>Ei vs e.args (g.ins.map (·.type)) e.args.length&&Cm vs e.lhs (g.outs.map (·.type)) e.lhs.length
  | none=>false
theorem apl (vs:List gy) (code:List eu) (h:wk code 0=true):Fd (ny vs) code 0 code.length [Nc vs code]:=by
 obtain⟨s,hs⟩:=adz (ny vs) h
 unfold Nc
 rw[ad1 hs]
 exact hs
def Po (c:List eu):Prop:=(∀t,t∈c->Ir t=true)∧wk c 0=true∧c.length<=6000
theorem aga (W w:World) (nv:Value) (vs:List gy) (G:List Int) (sb vb:Nat) (ov:Value) (D:List Nat) (C L:List cu->Option Nat) (N:Nat) (hS:Sc W w nv .nilFunc vs G sb vb ov D C L N) (code:List eu) (cv:Value) (hcv:bf 3 32 jw 0 W cv code) (hc:Po code) :
  ∀w',Below w.heap.size w w'->Calls Tryz.prog 150 #[.pointer (some ⟨sb,0,none⟩),cv] w' (Ans (.int .i64 (Nc vs code)) w'):=fun w' hb =>
 apm W w' nv vs G sb vb ov D C L N (hS.below hb) code cv (hcv.stays je (hS.below hb).old) hc.1 hc.2.2 _ (apl vs code hc.2.1) hc.2.1
theorem Sc.var {W w:World} {nv fz:Value} {vs:List gy} {G:List Int} {sb vb:Nat} {ov:Value} {D:List Nat} {C L:List cu->Option Nat} {N:Nat} (h:Sc W w nv fz vs G sb vb ov D C L N) (nm:ByteArray) (hn:nm.size<=maxLen) (hl:jc vs nm<vs.length) :
  ∃dk p cv,(∀w',Below w.heap.size w w'->(Instr.lookup 76 (.map (some vb)) (.string nm) false).run Tryz.prog w'=.ok (.pointer (some ⟨dk,0,none⟩)) w')∧dh w dk 73 (Gu (jg vs nm) cv p (G.getD (jc vs nm) 0) fz)∧C (jv vs nm)=some p:=by
 obtain⟨cv,p,h1,h2,_⟩:=h.decl _ hl
 have e:jg vs nm=vs[jc vs nm]:=by unfold jg;rw[dif_pos hl]
 refine⟨D.getD (jc vs nm) 0,p,cv,fun w' hb=>?_,by rw[e];exact h1,by unfold jv;rw[e];exact h2⟩
 obtain⟨n,f',h3,h4,h5⟩:=h.vars
 have h9:=(h4.below hb).look (t:=76) Tryz.underlying9 Tryz.underlying76 (by kernel_rfl) hn
 rw[h5] at h9
 unfold He at h9
 rw[if_pos hl] at h9
 exact h9
set_option maxRecDepth 20000 in
set_option maxHeartbeats 8000000 in
theorem agx (W w:World) (ns:List ay) (i:Nat) (x:ay) (b o cb EB:Nat) (G:List Int) (sb vb:Nat) (ov:Value) (D:List Nat) (C L:List cu->Option Nat) (N:Nat) (h:Ck W w ns i x b o cb EB G sb vb ov D C L N) (e:qg) (qb qo:Nat) (he:At 4 Dt W qb qo e)
  (hg:e.call.size=0) (hlh:0<e.lhs.length) (hlk:∀s,s∈e.lhs->jc (aj x) s<(aj x).length) (hcd:Po e.code) :
  Calls Tryz.prog 136 #[.pointer (some ⟨cb,0,none⟩),.pointer (some ⟨qb,qo,none⟩)] w (Ans (.bool (Kr ns i (aj x) e)) w):=by
 have c0:=h.blk.cell (i:=0) (v:=.pointer (some ⟨sb,0,none⟩)) rfl
 have s2:=h.sc.tq.cell (i:=2) (v:=.map (some vb)) rfl
 have hold:=h.sc.old
 have HR:Hid (Kr ns i (aj x) e=(Nc (aj x) e.code == (jg (aj x) (e.lhs.headD ⟨#[]⟩)).type)):=by
  refine hide ?_
  unfold Kr uj
  rw[if_pos hg]
 obtain⟨lhs,code,s,args⟩:=e
 obtain⟨hbl,cs,hl,hc,x1,x2,x3,rfl,hs,h1,h2,h3⟩:=he
 simp only at *
 obtain⟨b2,Oc,rfl⟩:=h2.shape
 obtain⟨lb,lo,amw,hx1,hat⟩:=h1.at' 0 hlh
 subst hx1
 obtain⟨ahp,ls,hll,hlc,rfl,hls⟩:=hat
 have k0:=(hold.cell (p:=⟨qb,_,none⟩) hbl).trans (hc 0 (by simp))
 have k1:=(hold.cell (p:=⟨qb,_,none⟩) hbl).trans (hc 1 (by simp))
 have k2:=(hold.cell (p:=⟨qb,_,none⟩) hbl).trans (hc 2 (by simp))
 have l0:=(hold.cell (p:=⟨lb,_,none⟩) ahp).trans (hlc 0 (by simp))
 simp only[List.getElem_cons_zero,List.getElem_cons_succ,Nat.add_zero,Nat.zero_mul] at k0 k1 k2 l0
 have ehd:lhs.headD ⟨#[]⟩=lhs[0]:=by
  cases lhs with
  | nil=>simp at hlh
  | cons a r=>rfl
 rw[ehd] at HR
 have hn:lhs[0].size<=maxLen:=by unfold Len at hls;unfold maxLen;omega
 obtain⟨dk,p,cv,Bg,hdb,_⟩:=h.sc.var lhs[0] hn (hlk _ (List.getElem_mem _))
 have d1:=hdb.cell (i:=1) (v:=.int .i64 (jg (aj x) lhs[0]).type) rfl
 have oh:=hide (aga W w _ (aj x) G sb vb ov D C L N h.sc code _ h2 hcd)
 have d4:=Aa s hg
 have Ij:=xg s hg
 generalize (jg (aj x) lhs[0]).type=vt at *
 generalize Nc (aj x) code=ty at *
 generalize lhs[0]=nm at *
 have a1p:(0:Int)<(lhs.length:Int):=by omega
 generalize lhs.length=ll at *
 generalize Kr ns i (aj x) ⟨lhs,code,s,args⟩=R at *
 obtain⟨LB,hLB⟩:∃LB:World->Prop,∀w',LB w'↔(w'.cell? ⟨cb,0,none⟩=some (.pointer (some ⟨sb,0,none⟩))∧w'.cell? ⟨sb,2,none⟩=some (.map (some vb))∧w'.cell? ⟨qb,qo,none⟩=some (.slice (some ⟨lb,lo,none⟩) ll amw)∧w'.cell? ⟨qb,qo+1,none⟩=some (.slice b2 code.length Oc)∧w'.cell? ⟨lb,lo,none⟩=some (.string nm)∧w'.cell? ⟨dk,1,none⟩=some (.int .i64 vt)∧(Instr.lookup 76 (.map (some vb)) (.string nm) false).run Tryz.prog w'=.ok (.pointer (some ⟨dk,0,none⟩)) w'):=⟨_,fun _=>Iff.rfl⟩
 have HLB:Hid (∀w',Below w.heap.size w w'->LB w'):=fun w' hb=>by
  have hk:∀{p:Addr} {v:Value},w.cell? p=some v->w'.cell? p=some v:=fun {p v} h9=>(hb.cell (World.block_lt_of_cell? w _ h9)).trans h9
  exact(hLB w').2 ⟨hk c0,hk s2,hk k0,hk k1,hk l0,hk d1,Bg w' hb⟩
 have HT:Hid (Calls Tryz.prog 150 #[.pointer (some ⟨sb,0,none⟩),.slice b2 code.length Oc] w.drew fun e w'=>e=.returned (.int .i64 ty)∧Hid (Below w.heap.size w w')∧(w'.cell? ⟨cb,0,none⟩=some (.pointer (some ⟨sb,0,none⟩))∧w'.cell? ⟨sb,2,none⟩=some (.map (some vb))∧w'.cell? ⟨qb,qo,none⟩=some (.slice (some ⟨lb,lo,none⟩) ll amw)∧w'.cell? ⟨qb,qo+1,none⟩=some (.slice b2 code.length Oc)∧w'.cell? ⟨lb,lo,none⟩=some (.string nm)∧w'.cell? ⟨dk,1,none⟩=some (.int .i64 vt)∧(Instr.lookup 76 (.map (some vb)) (.string nm) false).run Tryz.prog w'=.ok (.pointer (some ⟨dk,0,none⟩)) w')):=by
  refine hide ((uh oh w.drew ((Below.refl _ _).drew)).mono ?_)
  rintro e w' ⟨rfl,hb⟩
  have hb':=Dx hb
  exact⟨rfl,hb',(hLB w').1 (uh HLB w' hb')⟩
 have hlk0:=Bg w (Below.refl _ _)
 have a5f:=Bg w.drew ((Below.refl _ _).drew)
 clear h hc hl hs h1 h2 h3 hlc hll hls hold hbl ahp hg hlk hcd hn hdb hLB HLB oh ehd Bg
 go_enter Tryz.func136,Tryz.ntmps136
 go_wp2_with fail
 go_region_held3 (fun w'=>w'.cell? ⟨cb,0,none⟩=some (.pointer (some ⟨sb,0,none⟩))∧w'.cell? ⟨sb,2,none⟩=some (.map (some vb))∧w'.cell? ⟨qb,qo,none⟩=some (.slice (some ⟨lb,lo,none⟩) ll amw)∧w'.cell? ⟨qb,qo+1,none⟩=some (.slice b2 code.length Oc)∧w'.cell? ⟨lb,lo,none⟩=some (.string nm)∧w'.cell? ⟨dk,1,none⟩=some (.int .i64 vt)∧(Instr.lookup 76 (.map (some vb)) (.string nm) false).run Tryz.prog w'=.ok (.pointer (some ⟨dk,0,none⟩)) w') (go_keep) (first|(go_at_call 150;refine(uh HT).mono ?_;rintro e w1 ⟨rfl,HB1,z0,z1,z2,z3,z4,z5,z6⟩;clear HT))
 all_goals
  go_wp2
  go_ret
  exact⟨Iy (uh HR).symm,uh HB1⟩
theorem ahq {P:Program} (w:World) {tp te:TypeId} {j:TypeInfo} (a:Addr) (hp:P.underlying tp=some (.pointer te)) (hte:P.info? te=some j):(binOp .eql tp (.pointer (some a)) (.pointer (some a))).run P w=.ok (.bool true) w:=by
 have h:∀d:Nat,(Op.equalIn (d+1) tp (.pointer (some a)) (.pointer (some a))).run P w=.ok true w:=fun d=>by
  simp[Op.equalIn,run_underlying hp,sizeOf,typeInfo,hte,run_sameAddr_same]
 simp only[binOp]
 simp[Op.equal,Op.maxDepth,h 9999]
theorem agy {P:Program} (w:World) {tp te:TypeId} {j:TypeInfo} {a b:Addr} {ca cb:Array Value} {ta tb:TypeId} (hp:P.underlying tp=some (.pointer te)) (hte:P.info? te=some j) (hsz:j.size≠0) (hne:a≠b) (ha:w.heap[a.block]?=some (.cells ca ta (0,0))) (hb:w.heap[b.block]?=some (.cells cb tb (0,0))):(binOp .eql tp (.pointer (some a)) (.pointer (some b))).run P w=.ok (.bool false) w:=by
 have h:∀d:Nat,(Op.equalIn (d+1) tp (.pointer (some a)) (.pointer (some b))).run P w=.ok false w:=fun d=>by
  simp[Op.equalIn,run_underlying hp,sizeOf,typeInfo,hte,hsz,run_sameAddr_other w hne ha hb]
 simp only[binOp]
 simp[Op.equal,Op.maxDepth,h 9999]
theorem Trie.eql {w:World} {lo:Nat} {X:Nat->Prop} {C L:List cu->Option Nat} {N:Nat} (h:Trie w lo X C L N) {ka kb:List cu} {p q:Nat} (ha:C ka=some p) (hb:C kb=some q):(binOp .eql 69 (.pointer (some ⟨p,0,none⟩)) (.pointer (some ⟨q,0,none⟩))).run Tryz.prog w=.ok (.bool (qj ka kb)) w:=by
 obtain⟨j,h1,h2⟩:=aco
 by_cases e:p=q
 ·subst e
  rw[(Qd ka kb).2 (h.inj _ _ _ ha hb)]
  exact ahq w _ Tryz.underlying69 h1
 ·have hf:qj ka kb=false:=by
   cases hc:qj ka kb with
   | false=>rfl
   | true =>
    have h9:=(Qd ka kb).1 hc
    rw[h9,hb] at ha
    exact absurd (Option.some.inj ha).symm e
  rw[hf]
  exact agy w Tryz.underlying69 h1 h2 (fun e9=>e (congrArg Addr.block e9)) (h.blk _ _ ha).1 (h.blk _ _ hb).1
theorem Trie.neq {w:World} {lo:Nat} {X:Nat->Prop} {C L:List cu->Option Nat} {N:Nat} (h:Trie w lo X C L N) {ka kb:List cu} {p q:Nat} (ha:C ka=some p) (hb:C kb=some q):(binOp .neq 69 (.pointer (some ⟨p,0,none⟩)) (.pointer (some ⟨q,0,none⟩))).run Tryz.prog w=.ok (.bool (!qj ka kb)) w:=by
 by_cases e:p=q
 ·subst e
  rw[(Qd ka kb).2 (h.inj _ _ _ ha hb)]
  exact ahr w p
 ·have hf:qj ka kb=false:=by
   cases hc:qj ka kb with
   | false=>rfl
   | true =>
    have h9:=(Qd ka kb).1 hc
    rw[h9,hb] at ha
    exact absurd (Option.some.inj ha).symm e
  rw[hf]
  exact agb w e (h.blk _ _ ha).1 (h.blk _ _ hb).1
def Qx (vs:List gy) (t:eu) (ks:List cu):Bool :=
 if t.op=3 then qj (jv vs t.name) ks
 else if t.op=23 then (match ks.getLast? with|none=>false|some c=>Io c ⟨t.name,t.val == 1⟩)&&qj (jv vs t.name) ks.dropLast
 else if t.op=24 then qj (jv vs t.name) ks&&decide (ks.length<8)
 else true
set_option maxRecDepth 20000 in
set_option maxHeartbeats 4000000 in
theorem awl (W w:World) (nv:Value) (vs:List gy) (G:List Int) (sb vb:Nat) (ov:Value) (D:List Nat) (C L:List cu->Option Nat) (N:Nat) (h:Sc W w nv .nilFunc vs G sb vb ov D C L N) (t:eu) (hn:t.name.size<=maxLen) (hop:1<=t.op∧t.op<=24) (hlk:t.op=3∨t.op=23∨t.op=24->jc vs t.name<vs.length)
  (ks:List cu) (p:Nat) (hp:C ks=some p) :
  Calls Tryz.prog 156 #[.pointer (some ⟨sb,0,none⟩),.agg #[.int .i64 t.op,.int .i64 t.val,.string t.name],.pointer (some ⟨p,0,none⟩)] w (Ans (.bool (Qx vs t ks)) w):=by
 have hA:Below w.heap.size w (w.alloc (.cells #[.int .i64 t.op,.int .i64 t.val,.string t.name] 97)):=(Below.refl _ _).alloc (Nat.le_refl _) _
 have HA:=hide hA
 have HF:=hide (h.below hA)
 have tu:=hide (jd w #[.int .i64 t.op,.int .i64 t.val,.string t.name] 97)
 clear h hA
 obtain⟨op,vl,nm⟩:=t
 simp only at *
 obtain⟨R,hR⟩:∃R,R=Qx vs ⟨op,vl,nm⟩ ks:=⟨_,rfl⟩
 rw[←hR]
 unfold Qx at hR
 simp only at hR
 by_cases hnn:op=3∨op=23∨op=24
 case neg =>
  have HR:Hid (R=true):=by
   rw[if_neg (by omega),if_neg (by omega),if_neg (by omega)] at hR
   exact hide hR
  have bx:=(uh tu).cell (i:=0) (v:=.int .i64 op) rfl
  have e1:(op == 3)=false:=by rw[beq_eq_false_iff_ne];omega
  have e2:(op == 23)=false:=by rw[beq_eq_false_iff_ne];omega
  have e3:(op == 24)=false:=by rw[beq_eq_false_iff_ne];omega
  clear hR HF tu hnn hlk hop
  go_enter Tryz.func156,Tryz.ntmps156
  go_wp2
  go_ret
  exact⟨Iy (uh HR).symm,uh HA⟩
 obtain⟨dk,p1,cv,Bg,hdb,hp1⟩:=(uh HF).var nm hn (hlk hnn)
 have d3:=hdb.cell (i:=3) (v:=.pointer (some ⟨p1,0,none⟩)) rfl
 have s2:=(uh HF).tq.cell (i:=2) (v:=.map (some vb)) rfl
 have hpb:=((uh HF).trie.blk ks p hp).1
 rcases hnn with rfl|rfl|rfl
 ·have HR:Hid (R=qj (jv vs nm) ks):=hR
  have bx:=(uh tu).cell (i:=2) (v:=.string nm) rfl
  have hlk2:∀nq,(Instr.lookup 76 (.map (some vb)) (.string nm) false).run Tryz.prog ((w.alloc (.cells #[.int .i64 3,.int .i64 vl,.string nm] 97)).drewN nq)=.ok (.pointer (some ⟨dk,0,none⟩)) ((w.alloc (.cells #[.int .i64 3,.int .i64 vl,.string nm] 97)).drewN nq):=fun nq=>Bg _ (jf (Below.refl _ _) nq)
  have heq:∀nq,(binOp .eql 69 (.pointer (some ⟨p1,0,none⟩)) (.pointer (some ⟨p,0,none⟩))).run Tryz.prog ((w.alloc (.cells #[.int .i64 3,.int .i64 vl,.string nm] 97)).drewN nq)=.ok (.bool R) ((w.alloc (.cells #[.int .i64 3,.int .i64 vl,.string nm] 97)).drewN nq):=fun nq=>by
   rw[uh HR]
   exact(((uh HF).trie).below (jf (Below.refl _ _) nq)).eql hp1 hp
  clear hR HR HF tu hlk hop Bg hdb hp1 hpb hp hn
  go_enter Tryz.func156,Tryz.ntmps156
  go_wp2_with fail
  generalize w.alloc (.cells #[.int .i64 3,.int .i64 vl,.string nm] 97)=wA at *
  go_quiet ((fail))
  go_wp2
  go_ret
  exact⟨rfl,jf (uh HA) _⟩
 ·obtain⟨wA,hwA⟩:∃z,z=w.alloc (.cells #[.int .i64 23,.int .i64 vl,.string nm] 97):=⟨_,rfl⟩
  have hB:Below wA.heap.size wA (wA.alloc (.cells #[.string nm,.bool (vl == 1)] 94)):=(Below.refl _ _).alloc (Nat.le_refl _) _
  rw[←hwA] at HA HF tu Bg hdb d3 s2 hpb
  have hkB:∀{p:Addr} {v:Value},wA.cell? p=some v->(wA.alloc (.cells #[.string nm,.bool (vl == 1)] 94)).cell? p=some v:=fun {p v} h9=>(hB.cell (World.block_lt_of_cell? wA _ h9)).trans h9
  have bx0:=(uh tu).cell (i:=0) (v:=.int .i64 23) rfl
  have bx1:=(uh tu).cell (i:=1) (v:=.int .i64 vl) rfl
  have bx2:=(uh tu).cell (i:=2) (v:=.string nm) rfl
  have hbc:=jd wA #[.string nm,.bool (vl == 1)] 94
  rw[show wA.heap.size=w.heap.size+1 from by rw[hwA];simp] at hbc
  have y0:=hbc.cell (i:=0) (v:=.string nm) rfl
  have y1:=hbc.cell (i:=1) (v:=.bool (vl == 1)) rfl
  have y2:=hkB bx2
  have y3:=hkB s2
  have y4:=hkB d3
  have Og:=hide ((uh HA).trans (hB.mono (uh HA).size))
  rcases List.eq_nil_or_concat ks with hnil|⟨Ej,c,hks⟩
  ·have HR:Hid (R=false):=by
    rw[hnil] at hR
    exact hR
   have q0:wA.cell? ⟨p,0,none⟩=some (.pointer none):=hpb.cell (i:=0) (by rw[hnil];rfl)
   have z0:=hkB q0
   subst hwA
   clear hR HF tu hlk hop Bg hdb hp1 hpb hp hn hkB hbc hB q0 d3 s2
   go_enter Tryz.func156,Tryz.ntmps156
   go_wp2_with fail
   generalize w.alloc (.cells #[.int .i64 23,.int .i64 vl,.string nm] 97)=wA at *
   generalize wA.alloc (.cells #[.string nm,.bool (vl == 1)] 94)=wB at *
   go_quiet ((fail))
   go_wp2
   go_ret
   exact⟨Iy (uh HR).symm,jf (uh Og) _⟩
  ·rw[List.concat_eq_append] at hks
   have HRR:Hid (R=(Io c ⟨nm,vl == 1⟩&&qj (jv vs nm) Ej)):=by
    rw[hks] at hR
    refine hide ?_
    rw[hR]
    simp
   rw[hks] at hp hpb
   obtain⟨q,M,hq,_⟩:=(uh HF).trie.up _ _ _ hp
   have hcells:Ai C L (Ej++[c])=#[.pointer (some ⟨q,0,none⟩),.string c.name,.bool c.on,.int .i64 ((Ej++[c]).length:Int),.map (L (Ej++[c])),.int .i64 0,.slice none 0 0]:=by
    unfold Ai
    rw[Wv,Pq,hq]
    rfl
   rw[hcells] at hpb
   have z0:=hkB (hpb.cell (i:=0) (v:=.pointer (some ⟨q,0,none⟩)) rfl)
   have z1:=hkB (hpb.cell (i:=1) (v:=.string c.name) rfl)
   have z2:=hkB (hpb.cell (i:=2) (v:=.bool c.on) rfl)
   have hlk2:∀nq,(Instr.lookup 76 (.map (some vb)) (.string nm) false).run Tryz.prog ((wA.alloc (.cells #[.string nm,.bool (vl == 1)] 94)).drewN nq)=.ok (.pointer (some ⟨dk,0,none⟩)) ((wA.alloc (.cells #[.string nm,.bool (vl == 1)] 94)).drewN nq):=fun nq=>Bg _ (jf hB nq)
   obtain⟨S,hS⟩:∃S,S=qj (jv vs nm) Ej:=⟨_,rfl⟩
   have heq:∀nq,(binOp .eql 69 (.pointer (some ⟨p1,0,none⟩)) (.pointer (some ⟨q,0,none⟩))).run Tryz.prog ((wA.alloc (.cells #[.string nm,.bool (vl == 1)] 94)).drewN nq)=.ok (.bool S) ((wA.alloc (.cells #[.string nm,.bool (vl == 1)] 94)).drewN nq):=fun nq=>by
    rw[hS]
    exact(((uh HF).trie).below (jf hB nq)).eql hp1 hq
   have Gi:Hid (R=(((c.name.toList == nm.toList)&&(c.on == (vl == 1)))&&S)):=by rw[hS];exact hide (uh HRR)
   subst hwA
   clear hR HF tu hlk hop Bg hdb hp1 hpb hp hn hkB hbc hB d3 s2 hks hcells hq hS HRR
   obtain⟨cn,co⟩:=c
   simp only at z1 z2 Gi
   cases h1:(cn.toList == nm.toList)
   ·rw[h1,Bool.false_and,Bool.false_and] at Gi
    go_enter Tryz.func156,Tryz.ntmps156
    go_wp2_with fail
    generalize w.alloc (.cells #[.int .i64 23,.int .i64 vl,.string nm] 97)=wA at *
    generalize wA.alloc (.cells #[.string nm,.bool (vl == 1)] 94)=wB at *
    go_quiet ((fail))
    all_goals
     go_wp2
     go_ret
     exact⟨Iy (uh Gi).symm,jf (uh Og) _⟩
   cases h2:(co == (vl == 1))
   ·rw[h1,h2,Bool.and_false,Bool.false_and] at Gi
    go_enter Tryz.func156,Tryz.ntmps156
    go_wp2_with fail
    generalize w.alloc (.cells #[.int .i64 23,.int .i64 vl,.string nm] 97)=wA at *
    generalize wA.alloc (.cells #[.string nm,.bool (vl == 1)] 94)=wB at *
    go_quiet ((fail))
    all_goals
     go_wp2
     go_ret
     exact⟨Iy (uh Gi).symm,jf (uh Og) _⟩
   ·rw[h1,h2,Bool.and_true,Bool.true_and] at Gi
    go_enter Tryz.func156,Tryz.ntmps156
    go_wp2_with fail
    generalize w.alloc (.cells #[.int .i64 23,.int .i64 vl,.string nm] 97)=wA at *
    generalize wA.alloc (.cells #[.string nm,.bool (vl == 1)] 94)=wB at *
    go_quiet ((fail))
    all_goals
     go_wp2
     go_ret
     exact⟨Iy (uh Gi).symm,jf (uh Og) _⟩
 ·have HR:Hid (R=(qj (jv vs nm) ks&&decide (ks.length<8))):=hR
  have bx:=(uh tu).cell (i:=2) (v:=.string nm) rfl
  have q3:=hpb.cell (i:=3) (v:=.int .i64 (ks.length:Int)) rfl
  have hlk2:∀nq,(Instr.lookup 76 (.map (some vb)) (.string nm) false).run Tryz.prog ((w.alloc (.cells #[.int .i64 24,.int .i64 vl,.string nm] 97)).drewN nq)=.ok (.pointer (some ⟨dk,0,none⟩)) ((w.alloc (.cells #[.int .i64 24,.int .i64 vl,.string nm] 97)).drewN nq):=fun nq=>Bg _ (jf (Below.refl _ _) nq)
  obtain⟨S,hS⟩:∃S,S=qj (jv vs nm) ks:=⟨_,rfl⟩
  rw[←hS] at HR
  have heq:∀nq,(binOp .eql 69 (.pointer (some ⟨p1,0,none⟩)) (.pointer (some ⟨p,0,none⟩))).run Tryz.prog ((w.alloc (.cells #[.int .i64 24,.int .i64 vl,.string nm] 97)).drewN nq)=.ok (.bool S) ((w.alloc (.cells #[.int .i64 24,.int .i64 vl,.string nm] 97)).drewN nq):=fun nq=>by
   rw[hS]
   exact(((uh HF).trie).below (jf (Below.refl _ _) nq)).eql hp1 hp
  have HK8:Hid (decide (ks.length<8)=decide ((ks.length:Int)<8)):=hide (by simp only[decide_eq_decide];omega)
  rw[uh HK8] at HR
  clear hR HF tu hlk hop Bg hdb hp1 hpb hp hn hS HK8
  generalize (ks.length:Int)=kl at *
  cases S
  ·rw[Bool.false_and] at HR
   go_enter Tryz.func156,Tryz.ntmps156
   go_wp2_with fail
   generalize w.alloc (.cells #[.int .i64 24,.int .i64 vl,.string nm] 97)=wA at *
   go_quiet ((fail))
   go_wp2
   go_ret
   exact⟨Iy (uh HR).symm,jf (uh HA) _⟩
  ·rw[Bool.true_and] at HR
   go_enter Tryz.func156,Tryz.ntmps156
   go_wp2_with fail
   generalize w.alloc (.cells #[.int .i64 24,.int .i64 vl,.string nm] 97)=wA at *
   go_quiet ((fail))
   go_wp2
   go_ret
   exact⟨Iy (uh HR).symm,jf (uh HA) _⟩
set_option maxHeartbeats 1000000 in
theorem awm (w:World):Calls Tryz.prog 165 #[.int .u64 1,.int .u64 0] w fun e w'=>e=.returned (.tuple #[.int .u64 0,.int .u64 0])∧w'=w:=by
 go_enter Tryz.func165,Tryz.ntmps165
 go_wp2
 refine bodyPost_ret (v:=.tuple #[.int .u64 0,.int .u64 0]) (by kernel_rfl) rfl ?_
 exact⟨rfl,rfl⟩
set_option maxHeartbeats 1000000 in
theorem a0u (w:World):Calls Tryz.prog 163 #[.int .u64 1,.int .u64 0] w fun e w'=>e=.returned (.tuple #[.int .u64 0,.int .u64 0])∧w'=w:=by
 go_enter Tryz.func163,Tryz.ntmps163
 go_wp2_with fail
 refine(awm w).mono ?_
 rintro e w1 ⟨rfl,rfl⟩
 go_wp2
 refine bodyPost_ret (v:=.tuple #[.int .u64 0,.int .u64 0]) (by kernel_rfl) rfl ?_
 exact⟨rfl,rfl⟩
set_option maxHeartbeats 1000000 in
theorem awn (w:World):Calls Tryz.prog 165 #[.int .u64 1,.int .u64 1] w fun e w'=>e=.returned (.tuple #[.int .u64 0,.int .u64 1])∧w'=w:=by
 go_enter Tryz.func165,Tryz.ntmps165
 go_wp2
 refine bodyPost_ret (v:=.tuple #[.int .u64 0,.int .u64 1]) (by kernel_rfl) rfl ?_
 exact⟨rfl,rfl⟩
set_option maxHeartbeats 1000000 in
theorem a0v (w:World):Calls Tryz.prog 163 #[.int .u64 1,.int .u64 1] w fun e w'=>e=.returned (.tuple #[.int .u64 0,.int .u64 1])∧w'=w:=by
 go_enter Tryz.func163,Tryz.ntmps163
 go_wp2_with fail
 refine(awn w).mono ?_
 rintro e w1 ⟨rfl,rfl⟩
 go_wp2
 refine bodyPost_ret (v:=.tuple #[.int .u64 0,.int .u64 1]) (by kernel_rfl) rfl ?_
 exact⟨rfl,rfl⟩
set_option maxHeartbeats 1000000 in
theorem awo (w:World):Calls Tryz.prog 165 #[.int .u64 1,.int .u64 2] w fun e w'=>e=.returned (.tuple #[.int .u64 0,.int .u64 2])∧w'=w:=by
 go_enter Tryz.func165,Tryz.ntmps165
 go_wp2
 refine bodyPost_ret (v:=.tuple #[.int .u64 0,.int .u64 2]) (by kernel_rfl) rfl ?_
 exact⟨rfl,rfl⟩
set_option maxHeartbeats 1000000 in
theorem a0w (w:World):Calls Tryz.prog 163 #[.int .u64 1,.int .u64 2] w fun e w'=>e=.returned (.tuple #[.int .u64 0,.int .u64 2])∧w'=w:=by
 go_enter Tryz.func163,Tryz.ntmps163
 go_wp2_with fail
 refine(awo w).mono ?_
 rintro e w1 ⟨rfl,rfl⟩
 go_wp2
 refine bodyPost_ret (v:=.tuple #[.int .u64 0,.int .u64 2]) (by kernel_rfl) rfl ?_
 exact⟨rfl,rfl⟩
set_option maxHeartbeats 1000000 in
theorem awp (w:World):Calls Tryz.prog 165 #[.int .u64 1,.int .u64 3] w fun e w'=>e=.returned (.tuple #[.int .u64 0,.int .u64 3])∧w'=w:=by
 go_enter Tryz.func165,Tryz.ntmps165
 go_wp2
 refine bodyPost_ret (v:=.tuple #[.int .u64 0,.int .u64 3]) (by kernel_rfl) rfl ?_
 exact⟨rfl,rfl⟩
set_option maxHeartbeats 1000000 in
theorem a0x (w:World):Calls Tryz.prog 163 #[.int .u64 1,.int .u64 3] w fun e w'=>e=.returned (.tuple #[.int .u64 0,.int .u64 3])∧w'=w:=by
 go_enter Tryz.func163,Tryz.ntmps163
 go_wp2_with fail
 refine(awp w).mono ?_
 rintro e w1 ⟨rfl,rfl⟩
 go_wp2
 refine bodyPost_ret (v:=.tuple #[.int .u64 0,.int .u64 3]) (by kernel_rfl) rfl ?_
 exact⟨rfl,rfl⟩
end Go.Proofs.YtflcnhfakcgkeaaGreat
