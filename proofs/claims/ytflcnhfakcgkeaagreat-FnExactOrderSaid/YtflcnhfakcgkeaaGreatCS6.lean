import Derived.Test.YtflcnhfakcgkeaaGreatCS4
import Derived.Test.YtflcnhfakcgkeaaGreatWI3
import Derived.LaidEqlPtr
namespace Go.Proofs.YtflcnhfakcgkeaaGreat
open Go.RowKit
set_option linter.unusedSimpArgs false
set_option linter.unusedVariables false
structure Ck (W w:World) (ns:List ay) (i:Nat) (x:ay) (b o cb EB:Nat) (G:List Int) (sb vb:Nat) (ov:Value) (D:List Nat) (C L:List cu->Option Nat) (N:Nat):Prop where
 sc:Sc W w (.pointer (some ⟨b,o+i*5,none⟩)) .nilFunc (aj x) G sb vb ov D C L N
 blk:dh w cb 107 #[.pointer (some ⟨sb,0,none⟩),.map (some EB)]
 lib:Hu W EB b o ns i
 node:At 5 o7 W b (o+i*5) x
 clo:W.heap.size<=cb
theorem Ck.below {W w w':World} {ns:List ay} {i:Nat} {x:ay} {b o cb EB:Nat} {G:List Int} {sb vb:Nat} {ov:Value} {D:List Nat} {C L:List cu->Option Nat} {N:Nat} (h:Ck W w ns i x b o cb EB G sb vb ov D C L N) (hb:Below w.heap.size w w'):Ck W w' ns i x b o cb EB G sb vb ov D C L N:=⟨h.sc.below hb,h.blk.below hb h.blk.lt,h.lib,h.node,h.clo⟩
theorem atp (D:List Nat):D.flatMap L8.f=D.map xk:=by
 show D.flatMap (fun t=>[xk t])=_
 induction D with
 | nil=>rfl
 | cons a r ih=>rw[List.flatMap_cons,List.map_cons,ih];rfl
theorem iw.avz {w:World} {base:Nat} {v:Value} {D:List Nat} (h:iw L8 w base v D) {g c n:Nat} (hv:v=.slice (some ⟨g,0,none⟩) n c) (p:Nat) (hp:p<D.length):w.cell? ⟨g,p,none⟩=some (xk (D.getD p 0)):=by
 have h':=World.ownsRow.cells h (g:=g) (by rw[hv];rfl) p (xk (D.getD p 0)) (by
  rw[atp]
  rw[List.getElem?_map,List.getElem?_eq_getElem hp,List.getD_eq_getElem?_getD,List.getElem?_eq_getElem hp]
  rfl)
 rw[Addr.add_lit,Nat.zero_add] at h'
 exact h'
theorem aau {P:Program} (w:World) {tp te:TypeId} {j:TypeInfo} (a:Addr) (hp:P.underlying tp=some (.pointer te)) (hte:P.info? te=some j):(binOp .neq tp (.pointer (some a)) (.pointer (some a))).run P w=.ok (.bool false) w:=by
 have h:∀d:Nat,(Op.equalIn (d+1) tp (.pointer (some a)) (.pointer (some a))).run P w=.ok true w:=fun d=>by
  simp[Op.equalIn,run_underlying hp,sizeOf,typeInfo,hte,run_sameAddr_same]
 simp only[binOp]
 simp[Op.equal,Op.maxDepth,h 9999]
theorem Zw {P:Program} (w:World) {tp te:TypeId} {j:TypeInfo} {a b:Addr} {ca cb:Array Value} {ta tb:TypeId} (hp:P.underlying tp=some (.pointer te)) (hte:P.info? te=some j) (hsz:j.size≠0) (hne:a≠b) (ha:w.heap[a.block]?=some (.cells ca ta (0,0))) (hb:w.heap[b.block]?=some (.cells cb tb (0,0))):(binOp .neq tp (.pointer (some a)) (.pointer (some b))).run P w=.ok (.bool true) w:=by
 have h:∀d:Nat,(Op.equalIn (d+1) tp (.pointer (some a)) (.pointer (some b))).run P w=.ok false w:=fun d=>by
  simp[Op.equalIn,run_underlying hp,sizeOf,typeInfo,hte,hsz,run_sameAddr_other w hne ha hb]
 simp only[binOp]
 simp[Op.equal,Op.maxDepth,h 9999]
theorem agq:∃j,Tryz.prog.info? 73=some j∧j.size≠0:=by
 have h:(Tryz.prog.info? 73).map (fun i=>i.size)=some 6:=by kernel_rfl
 obtain⟨j,h1,h2⟩:=Option.map_eq_some_iff.1 h
 exact⟨j,h1,by omega⟩
theorem aco:∃j,Tryz.prog.info? 112=some j∧j.size≠0:=by
 have h:(Tryz.prog.info? 112).map (fun i=>i.size)=some 7:=by kernel_rfl
 obtain⟨j,h1,h2⟩:=Option.map_eq_some_iff.1 h
 exact⟨j,h1,by omega⟩
theorem aqb (w:World) (d:Nat):(binOp .neq 74 (.pointer (some ⟨d,0,none⟩)) (.pointer (some ⟨d,0,none⟩))).run Tryz.prog w=.ok (.bool false) w:=by
 obtain⟨j,h1,_⟩:=agq
 exact aau w _ Tryz.underlying74 h1
theorem an5 (w:World) {d e:Nat} (hne:d≠e) {T U:TypeId} {cs cs':Array Value} (hd:dh w d T cs) (he:dh w e U cs'):(binOp .neq 74 (.pointer (some ⟨d,0,none⟩)) (.pointer (some ⟨e,0,none⟩))).run Tryz.prog w=.ok (.bool true) w:=by
 obtain⟨j,h1,h2⟩:=agq
 exact Zw w Tryz.underlying74 h1 h2 (fun e9=>hne (congrArg Addr.block e9)) hd he
theorem ahr (w:World) (d:Nat):(binOp .neq 69 (.pointer (some ⟨d,0,none⟩)) (.pointer (some ⟨d,0,none⟩))).run Tryz.prog w=.ok (.bool false) w:=by
 obtain⟨j,h1,_⟩:=aco
 exact aau w _ Tryz.underlying69 h1
theorem agb (w:World) {d e:Nat} (hne:d≠e) {T U:TypeId} {cs cs':Array Value} (hd:dh w d T cs) (he:dh w e U cs'):(binOp .neq 69 (.pointer (some ⟨d,0,none⟩)) (.pointer (some ⟨e,0,none⟩))).run Tryz.prog w=.ok (.bool true) w:=by
 obtain⟨j,h1,h2⟩:=aco
 exact Zw w Tryz.underlying69 h1 h2 (fun e9=>hne (congrArg Addr.block e9)) hd he
theorem aas (vs:List gy) (k:Nat) (hk:k<vs.length):jc vs vs[k].name<=k:=by
 unfold jc
 rcases Nat.lt_or_ge k (List.findIdx (fun v=>v.name.toList == vs[k].name.toList) vs) with h|h
 ·have h1:=List.not_of_lt_findIdx h
  simp at h1
 ·exact h
theorem ajb (vs:List gy) (k:Nat) (hk:k<vs.length):I4 vs k=decide (jc vs vs[k].name<k):=by
 rw[apr vs k hk]
 have h:=aas vs k hk
 unfold uq
 rw[if_pos (by omega)]
 simp only[decide_eq_decide]
 omega
def O5 (r:Int × Int) (w:World) (e:Ending) (w':World):Prop:=e=.returned (.tuple #[.int .i64 r.1,.int .i64 r.2])∧Below w.heap.size w w'
def J4 (ns:List ay) (i:Nat) (x:ay):Int × Int:=if 0<=jh ns i x.name then (2,0) else match firstTo (I4 (aj x)) (aj x).length with
 | some k=>(2,(k:Int)+1)
 | none=>(0,0)
set_option maxRecDepth 20000 in
set_option maxHeartbeats 8000000 in
theorem atm (W w:World) (ns:List ay) (i:Nat) (x:ay) (b o cb EB:Nat) (G:List Int) (sb vb:Nat) (ov:Value) (D:List Nat) (C L:List cu->Option Nat) (N:Nat) (h:Ck W w ns i x b o cb EB G sb vb ov D C L N) (hvl:(aj x).length<=10000) (hnm:∀v,v∈aj x->v.name.size<=maxLen) :
  Calls Tryz.prog 77 #[.pointer (some ⟨cb,0,none⟩)] w (O5 (J4 ns i x) w):=by
 have HC:=hide h
 have c0:=h.blk.cell (i:=0) (v:=.pointer (some ⟨sb,0,none⟩)) rfl
 have c1:=h.blk.cell (i:=1) (v:=.map (some EB)) rfl
 have s0:=h.sc.tq.cell (i:=0) (v:=.pointer (some ⟨b,o+i*5,none⟩)) rfl
 have s1:=h.sc.tq.cell (i:=1) (v:=ov) rfl
 have s2:=h.sc.tq.cell (i:=2) (v:=.map (some vb)) rfl
 obtain⟨oa,oc,hov⟩:=h.sc.ord.slice
 have hdl:=h.sc.Eh
 rw[hdl] at hov
 subst hov
 obtain⟨hbl,cs,hl,hc,v1,v2,v3,v4,rfl,hs,_⟩:=h.node
 have k0:=(h.sc.old.cell (p:=⟨b,_,none⟩) hbl).trans (hc 0 (by simp))
 simp only[List.getElem_cons_zero,Nat.add_zero] at k0
 have hns:x.name.size<=maxLen:=by unfold Len at hs;unfold maxLen;omega
 obtain⟨f,hM,hM0,hM1⟩:=h.lib
 have hMw:∀nq,Dh Tryz.prog 9 (.pointer none) (w.drewN nq) EB i f:=fun nq=>hM.block ((jf (Below.refl w.heap.size w) nq).block EB (Nat.lt_of_lt_of_le hM.lt h.sc.old.size) |>.trans (h.sc.old.block EB hM.lt))
 have hlk:∀nq,(Instr.lookup 104 (.map (some EB)) (.string x.name) false).run Tryz.prog (w.drewN nq)=.ok (f x.name) (w.drewN nq):=fun nq=>(hMw nq).look (t:=104) Tryz.underlying9 Tryz.underlying104 (X0 _) hns
 obtain⟨PO,l7⟩:∃PO:Ending->World->Prop,PO=O5 (J4 ns i x) w:=⟨_,rfl⟩
 rw[←l7]
 have qy:=hide l7
 by_cases hf:0<=jh ns i x.name
 ·have hfb:=J7 ns i x.name
  obtain⟨q,hq⟩:=Int.eq_ofNat_of_zero_le hf
  obtain⟨m,g1,_⟩:=hM1 _ q hq
  rw[g1] at hlk
  have gq:Hid (∀w',Below w.heap.size w w'->PO (.returned (.tuple #[.int .i64 2,.int .i64 0])) w'):=fun w' hb=>by
   rw[uh qy]
   unfold J4
   rw[if_pos hf]
   exact⟨rfl,hb⟩
  clear l7 h HC hc hl hs hM hM0 hM1 hMw hf hfb hq g1 hdl hns s1 s2
  go_enter Tryz.func77,Tryz.ntmps77
  go_wp2_with fail
  go_quiet ((fail))
  go_wp2
  exact uh gq _ (jf (Below.refl _ _) _)
 ·rw[hM0 _ (by omega)] at hlk
  have Kv:Hid (∀k (hk:k<(aj x).length),∃g,oa=some ⟨g,0,none⟩∧∀w',Below w.heap.size w w'->w'.cell? ⟨g,k,none⟩=some (.pointer (some ⟨D.getD k 0,0,none⟩))∧w'.cell? ⟨D.getD k 0,0,none⟩=some (.string (aj x)[k].name)):=fun k hk=>by
   rcases h.sc.ord.shape with ⟨h1,h2⟩|⟨g,cap,h1,_,h2,_⟩
   ·rw[h2] at hdl
    simp at hdl
    omega
   ·simp only[Value.slice.injEq] at h1
    refine⟨g,h1.1,fun w' hb=>?_⟩
    have h3:=h.sc.ord.avz (g:=g) (c:=oc) (n:=(aj x).length) (by rw[h1.1]) k (by rw[hdl];exact hk)
    obtain⟨cv,p,h4,_⟩:=h.sc.decl k hk
    have h5:=h4.cell (i:=0) (v:=.string (aj x)[k].name) rfl
    exact⟨(hb.cell (World.block_lt_of_cell? w _ h3)).trans h3,(hb.cell (World.block_lt_of_cell? w _ h5)).trans h5⟩
  have Zq:Hid (∀k (hk:k<(aj x).length),∀w',Below w.heap.size w w'->(Instr.lookup 76 (.map (some vb)) (.string (aj x)[k].name) false).run Tryz.prog w'=.ok (He (aj x) D (aj x)[k].name) w'):=fun k hk w' hb=>by
   obtain⟨n,f',h1,h2,h3⟩:=h.sc.vars
   have h9:=(h2.below hb).look (t:=76) Tryz.underlying9 Tryz.underlying76 (by kernel_rfl) (hnm _ (List.getElem_mem hk))
   rw[h3] at h9
   exact h9
  have a2y:=hide h.sc.inj
  have an6:Hid (∀k,k<(aj x).length->∃cs,dh w (D.getD k 0) 73 cs):=fun k hk=>by
   obtain⟨cv,p,h4,_⟩:=h.sc.decl k hk
   exact⟨_,h4⟩
  have HNF:Hid (¬0<=jh ns i x.name):=hide (by omega)
  have Gv:Hid (∀w',Below w.heap.size w w'->w'.cell? ⟨cb,0,none⟩=some (.pointer (some ⟨sb,0,none⟩))∧w'.cell? ⟨sb,2,none⟩=some (.map (some vb))):=fun w' hb=>⟨(hb.cell (World.block_lt_of_cell? w _ c0)).trans c0,(hb.cell (World.block_lt_of_cell? w _ s2)).trans s2⟩
  clear l7 h HC hc hl hs hM hM0 hM1 hMw hf hdl hns s2
  go_enter Tryz.func77,Tryz.ntmps77
  go_wp2_with fail
  go_quiet ((fail))
  go_wp2
  go_loopg [30] (aj x).length (fun gm iv wr=>∃k:Nat,k<=(aj x).length∧gm=(aj x).length-k∧iv=.int .i64 k∧Below w.heap.size w wr∧∀j,j<k->I4 (aj x) j=false)
  case atStart=>exact⟨0,Nat.zero_le _,by omega,rfl,jf (Below.refl _ _) _,fun j hj=>absurd hj (Nat.not_lt_zero _)⟩
  case round =>
   obtain⟨k,hk,hg,rfl,hb,hno⟩:=hrel
   rename World=>wr
   have HG:=hide hg
   have HB:=hide hb
   have jo:=hide hno
   clear c0 c1 s0 s1 hlk hg hno
   by_cases hlt:k<(aj x).length
   case neg =>
    have hke:k=(aj x).length:=by omega
    have gq:Hid (PO (.returned (.tuple #[.int .i64 0,.int .i64 0])) wr):=by
     rw[uh qy]
     unfold J4
     rw[if_neg (by have:=uh HNF;omega),zk (fun j hj=>uh jo j (by omega))]
     exact hide ⟨rfl,uh HB⟩
    have Ec:¬(k:Int)<((aj x).length:Int):=by omega
    clear hke hb
    go_wp2
    first
     | exact uh gq
     | (refine bodyPost_ret (v:=.tuple #[.int .i64 0,.int .i64 0]) rfl rfl ?_;exact uh gq)
   obtain⟨g,hoe,hcell⟩:=uh Kv k hlt
   subst hoe
   obtain⟨d0,d1⟩:=hcell wr hb
   obtain⟨c0,s2⟩:=uh Gv wr hb
   have hls:=aas (aj x) k hlt
   have Tn:=ajb (aj x) k hlt
   have hlk0:=uh Zq k hlt
   have yw:=hide hlt
   have Ec:(k:Int)<((aj x).length:Int):=by omega
   have hwr:IntKind.i64.wrap ((k:Int)+1)=(k:Int)+1:=by
    rw[IntKind.wrap_i64]
    omega
   generalize (aj x)[k].name=nm at hls Tn hlk0 d1
   obtain⟨ln,hln⟩:∃z,z=jc (aj x) nm:=⟨_,rfl⟩
   rw[←hln] at hls Tn
   have hlk:∀nq,(Instr.lookup 76 (.map (some vb)) (.string nm) false).run Tryz.prog (wr.drewN nq)=.ok (.pointer (some ⟨D.getD ln 0,0,none⟩)) (wr.drewN nq):=fun nq=>by
    have h9:=hlk0 (wr.drewN nq) (jf hb nq)
    unfold He at h9
    rw[←hln,if_pos (by omega)] at h9
    exact h9
   clear hlk0 hln
   by_cases he:ln=k
   ·have Lr:Hid (∀j,j<k+1->I4 (aj x) j=false):=fun j hj=>by
     by_cases c:j<k
     ·exact uh jo j c
     ·have e:j=k:=by omega
      rw[e,Tn,he]
      simp
    rw[he] at hlk
    generalize D.getD k 0=dk at *
    have hpn:∀nq,(binOp .neq 74 (.pointer (some ⟨dk,0,none⟩)) (.pointer (some ⟨dk,0,none⟩))).run Tryz.prog (wr.drewN nq)=.ok (.bool false) (wr.drewN nq):=fun nq=>aqb _ _
    clear hcell he hls hb Kv Zq Tn hlt an6
    go_wp2_with fail
    go_quiet ((fail))
    go_wp2
    go_roundg ((aj x).length-(k+1))
    case measure =>
     have h8:=uh yw
     have h9:=uh HG
     omega
    case rel=>exact⟨k+1,uh yw,rfl,by go_num,jf (uh HB) _,uh Lr⟩
   ·have hdup:I4 (aj x) k=true:=by
     rw[Tn]
     exact decide_eq_true (by omega)
    have hne:D.getD ln 0≠D.getD k 0:=fun e=>he (uh a2y _ _ (by omega) hlt e)
    have gq:Hid (∀w',Below w.heap.size w w'->PO (.returned (.tuple #[.int .i64 2,.int .i64 ((k:Int)+1)])) w'):=fun w' hb'=>by
     rw[uh qy]
     unfold J4
     rw[if_neg (by have:=uh HNF;omega),Fe hlt hdup (uh jo)]
     exact⟨rfl,hb'⟩
    have hpn:∀nq,(binOp .neq 74 (.pointer (some ⟨D.getD ln 0,0,none⟩)) (.pointer (some ⟨D.getD k 0,0,none⟩))).run Tryz.prog (wr.drewN nq)=.ok (.bool true) (wr.drewN nq):=fun nq=>by
     obtain⟨c1,g1⟩:=uh an6 ln (by omega)
     obtain⟨c2,g2⟩:=uh an6 k hlt
     have vg:=jf hb nq
     exact an5 _ hne (g1.below vg g1.lt) (g2.below vg g2.lt)
    generalize D.getD k 0=dk at *
    generalize D.getD ln 0=dl at *
    clear hcell he hls Kv Zq hdup hb Tn hlt an6
    go_wp2_with fail
    go_quiet ((fail))
    go_wp2
    exact uh gq _ (jf (uh HB) _)
theorem agr (a b:cu):Io a b=true↔a=b:=by
 unfold Io
 rw[Bool.and_eq_true,abj,beq_iff_eq]
 constructor
 ·rintro⟨h1,h2⟩
  cases a;cases b
  simp only at h1 h2
  rw[h1,h2]
 ·rintro rfl
  exact⟨rfl,rfl⟩
theorem Qd (xs ys:List cu):qj xs ys=true↔xs=ys:=by
 unfold qj
 rw[Bool.and_eq_true,decide_eq_true_iff]
 constructor
 ·rintro⟨h1,h2⟩
  refine List.ext_getElem h1 (fun i hi hj=>?_)
  have h3:=List.all_eq_true.1 h2 (xs[i],ys[i]) (by
   rw[List.mem_iff_getElem]
   exact⟨i,by rw[List.length_zip];omega,by rw[List.getElem_zip]⟩)
  exact(agr _ _).1 h3
 ·rintro rfl
  refine⟨rfl,List.all_eq_true.2 (fun p hp=>?_)⟩
  obtain⟨i,hi,e⟩:=List.mem_iff_getElem.1 hp
  rw[List.getElem_zip] at e
  rw[←e]
  exact(agr _ _).2 rfl
theorem amb (vs:List gy) (ks:List cu) (j:Nat) (hj:j<ks.length) (hl:¬jc vs ks[j].name<vs.length):Bj vs ks j=true:=by
 rw[afa vs ks j hj]
 unfold uq
 rw[if_neg hl]
 simp
theorem atq (vs:List gy) (ks:List cu) (j:Nat) (hj:j<ks.length) (hl:jc vs ks[j].name<vs.length):Bj vs ks j=false↔(vs[jc vs ks[j].name].type=2∧vs[jc vs ks[j].name].clock=ks.take j):=by
 rw[afa vs ks j hj]
 unfold jv jg uq
 rw[if_pos hl,dif_pos hl,decide_eq_false (by omega),Bool.false_or,Bool.or_eq_false_iff,bne_eq_false_iff_eq,Bool.not_eq_false',Qd]
def Vj (vs:List gy) (ks:List cu):Bool:=!(firstTo (Bj vs ks) ks.length).isSome
theorem an7 {vs:List gy} {ks:List cu} (h:∀j,j<ks.length->Bj vs ks j=false):Vj vs ks=true:=by
 unfold Vj
 rw[zk h]
 rfl
theorem alc {vs:List gy} {ks:List cu} {j:Nat} (hj:j<ks.length) (h:Bj vs ks j=true):Vj vs ks=false:=by
 unfold Vj
 rw[first_some hj h]
 rfl
set_option maxRecDepth 20000 in
set_option maxHeartbeats 8000000 in
theorem an8 (W w:World) (ns:List ay) (i:Nat) (x:ay) (b o cb EB:Nat) (G:List Int) (sb vb:Nat) (ov:Value) (D:List Nat) (C L:List cu->Option Nat) (N:Nat) (h:Ck W w ns i x b o cb EB G sb vb ov D C L N) (ks:List cu) (p0:Nat) (hp0:C ks=some p0) (hnm:∀c,c∈ks->c.name.size<=maxLen) :
  Calls Tryz.prog 108 #[.pointer (some ⟨cb,0,none⟩),.pointer (some ⟨p0,0,none⟩)] w (Ans (.bool (Vj (aj x) ks)) w):=by
 have HC:=hide h
 have Oq:=hide hp0
 have HNM:=hide hnm
 clear h hp0 hnm
 obtain⟨PO,l7⟩:∃PO:Ending->World->Prop,PO=Ans (.bool (Vj (aj x) ks)) w:=⟨_,rfl⟩
 rw[←l7]
 have qy:=hide l7
 clear l7
 go_enter Tryz.func108,Tryz.ntmps108
 go_wp2
 go_loopg [1] ks.length (fun gm kv wr=>∃m p:Nat,m<=ks.length∧gm=m∧kv=.pointer (some ⟨p,0,none⟩)∧C (ks.take m)=some p∧Below w.heap.size w wr∧∀j,m<=j->j<ks.length->Bj (aj x) ks j=false)
 case atStart=>exact⟨ks.length,p0,Nat.le_refl _,rfl,rfl,by rw[List.take_length];exact uh Oq,Below.refl _ _,fun j h1 h2=>absurd h1 (by omega)⟩
 case round =>
  obtain⟨m,p,hm,hg,rfl,hp,hb,hno⟩:=hrel
  rename World=>wr
  have HG:=hide hg
  have HB:=hide hb
  have jo:=hide hno
  have hck:=(uh HC).below hb
  obtain⟨hbl,_⟩:=hck.sc.trie.blk _ p hp
  clear hg hno
  rcases Nat.eq_zero_or_pos m with hm0|hm0
  ·subst hm0
   have q0:wr.cell? ⟨p,0,none⟩=some (.pointer none):=hbl.cell (i:=0) (by rw[List.take_zero];rfl)
   have gq:Hid (PO (.returned (.bool true)) wr):=by
    rw[uh qy,an7 (fun j hj=>uh jo j (Nat.zero_le _) hj)]
    exact hide ⟨rfl,uh HB⟩
   clear hck hbl hp hb
   go_wp2
   first
    | exact uh gq
    | (go_ret;exact uh gq)
  obtain⟨m1,rfl⟩:∃z,m=z+1:=⟨m-1,by omega⟩
  have hml:m1<ks.length:=by omega
  have htk:ks.take (m1+1)=ks.take m1++[ks[m1]]:=by
   rw[List.take_add_one,List.getElem?_eq_getElem hml,Option.toList_some]
  have hcn:=amb (aj x) ks m1 hml
  have hcy:=atq (aj x) ks m1 hml
  have hmem:=uh HNM _ (List.getElem_mem hml)
  rw[htk] at hp hbl
  have HML:=hide hml
  have HBAD:Hid (Bj (aj x) ks m1=true->∀w',Below w.heap.size w w'->PO (.returned (.bool false)) w'):=fun h9 w' vg=>by
   rw[uh qy,alc hml h9]
   exact⟨rfl,vg⟩
  generalize ks[m1]=c at hp hbl htk hcn hcy hmem
  obtain⟨q,M,hq,_⟩:=hck.sc.trie.up _ _ _ hp
  have hcells:Ai C L (ks.take m1++[c])=#[.pointer (some ⟨q,0,none⟩),.string c.name,.bool c.on,.int .i64 ((ks.take m1++[c]).length:Int),.map (L (ks.take m1++[c])),.int .i64 0,.slice none 0 0]:=by
   unfold Ai
   rw[Wv,Pq,hq]
   rfl
  rw[hcells] at hbl
  have q0:=hbl.cell (i:=0) (v:=.pointer (some ⟨q,0,none⟩)) rfl
  have q1:=hbl.cell (i:=1) (v:=.string c.name) rfl
  have c0:=hck.blk.cell (i:=0) (v:=.pointer (some ⟨sb,0,none⟩)) rfl
  have s2:=hck.sc.tq.cell (i:=2) (v:=.map (some vb)) rfl
  have O4:=(hck.sc.trie.blk _ q hq).1
  obtain⟨ln,hln⟩:∃z,z=jc (aj x) c.name:=⟨_,rfl⟩
  rw[←hln] at hcn
  have hlk:∀nq,(Instr.lookup 76 (.map (some vb)) (.string c.name) false).run Tryz.prog (wr.drewN nq)=.ok (if ln<(aj x).length then xk (D.getD ln 0) else .pointer none) (wr.drewN nq):=fun nq=>by
   obtain⟨n,f',h1,h2,h3⟩:=hck.sc.vars
   have h9:=(h2.below (jf (Below.refl _ wr) nq)).look (t:=76) Tryz.underlying9 Tryz.underlying76 (by kernel_rfl) hmem
   rw[h3,He,←hln] at h9
   exact h9
  by_cases hl:ln<(aj x).length
  ·have an9:=hcy (by rw[←hln];exact hl)
   obtain⟨cv,p2,hdb,hp2,_⟩:=hck.sc.decl ln hl
   have hdt:Bj (aj x) ks m1=false↔((aj x)[ln].type=2∧(aj x)[ln].clock=ks.take m1):=by
    subst hln
    exact an9
   generalize (aj x)[ln]=dv at hdb hp2 hdt
   have d1:=hdb.cell (i:=1) (v:=.int .i64 dv.type) rfl
   have d3:=hdb.cell (i:=3) (v:=.pointer (some ⟨p2,0,none⟩)) rfl
   have hpb:=(hck.sc.trie.blk _ p2 hp2).1
   have hpq:p2=q↔dv.clock=ks.take m1:=⟨fun e=>hck.sc.trie.inj _ _ q (by rw[←e];exact hp2) hq,fun e=>by
    rw[e,hq] at hp2
    exact(Option.some.inj hp2).symm⟩
   have hlk2:∀nq,(Instr.lookup 76 (.map (some vb)) (.string c.name) false).run Tryz.prog (wr.drewN nq)=.ok (.pointer (some ⟨D.getD ln 0,0,none⟩)) (wr.drewN nq):=fun nq=>by
    have h9:=hlk nq
    rw[if_pos hl] at h9
    exact h9
   generalize D.getD ln 0=dk at *
   generalize c.name=nm at *
   have HHL:=hide hl
   by_cases ht:dv.type=2
   ·by_cases hpe:p2=q
    ·have Yn:Hid (∀j,m1<=j->j<ks.length->Bj (aj x) ks j=false):=fun j h1 h2=>by
      by_cases e:j=m1
      ·rw[e]
       exact hdt.2 ⟨ht,hpq.1 hpe⟩
      ·exact uh jo j (by omega) h2
     have HQ:=hide hq
     rw[ht] at d1
     have hpn:∀w',(binOp .neq 69 (.pointer (some ⟨p2,0,none⟩)) (.pointer (some ⟨q,0,none⟩))).run Tryz.prog w'=.ok (.bool false) w':=fun w'=>by
      rw[hpe]
      exact ahr _ _
     clear hck hbl hcells O4 hp hq htk HBAD hb hml hm hcn hcy an9 hlk hdb hp2 hpb hdt hpq ht hln hmem hpe
     go_wp2_with fail
     go_quiet ((fail))
     go_wp2_with fail
     go_quiet ((fail))
     go_wp2
     go_roundg m1
     case measure =>
      have h9:=uh HG
      omega
     case rel=>exact⟨m1,q,Nat.le_of_lt (uh HML),rfl,rfl,uh HQ,jf (uh HB) _,uh Yn⟩
    ·have HF:=hide (uh HBAD (by
      cases h9:Bj (aj x) ks m1 with
      | true=>rfl
      | false=>exact absurd (hpq.2 (hdt.1 h9).2) hpe))
     rw[ht] at d1
     have hpn:∀n1,(binOp .neq 69 (.pointer (some ⟨p2,0,none⟩)) (.pointer (some ⟨q,0,none⟩))).run Tryz.prog (wr.drewN n1)=.ok (.bool true) (wr.drewN n1):=fun n1=>by
      have vg:=jf (Below.refl wr.heap.size wr) n1
      exact agb _ hpe (hpb.below vg hpb.lt) (O4.below vg O4.lt)
     clear hck hbl hcells O4 hp hq htk HBAD hb hml hm hcn hcy an9 hlk hdb hp2 hpb hdt hpq ht hln hmem hpe
     go_wp2_with fail
     go_quiet ((fail))
     go_wp2_with fail
     go_quiet ((fail))
     go_wp2
     exact uh HF _ (jf (jf (uh HB) _) _)
   ·have HF:=hide (uh HBAD (by
      cases h9:Bj (aj x) ks m1 with
      | true=>rfl
      | false=>exact absurd (hdt.1 h9).1 ht))
    have htb:(dv.type == 2)=false:=by rw[beq_eq_false_iff_ne];exact ht
    have htn:(dv.type != 2)=true:=by rw[bne_iff_ne];exact ht
    clear hck hbl hcells O4 hp hq htk HBAD hb hml hm hcn hcy an9 hlk hdb hp2 hpb hdt hpq ht hln hmem
    go_wp2_with fail
    go_quiet ((fail))
    go_wp2_with fail
    go_quiet ((fail))
    go_wp2
    exact uh HF _ (jf (jf (uh HB) _) _)
  ·have HF:=hide (uh HBAD (hcn hl))
   have hlk2:∀nq,(Instr.lookup 76 (.map (some vb)) (.string c.name) false).run Tryz.prog (wr.drewN nq)=.ok (.pointer none) (wr.drewN nq):=fun nq=>by
    have h9:=hlk nq
    rw[if_neg hl] at h9
    exact h9
   generalize c.name=nm at *
   clear hck hbl hcells O4 hp hq htk hl HBAD hb hml hm hcn hcy hlk hln hmem
   go_wp2_with fail
   go_quiet ((fail))
   go_wp2_with fail
   go_quiet ((fail))
   go_wp2
   exact uh HF _ (jf (jf (uh HB) _) _)
theorem azf (vs:List gy) (k:Nat) (hk:k<vs.length):Dy vs k=!Vj vs vs[k].clock:=by
 rw[aic vs k hk]
 unfold Vj
 rw[Bool.not_not]
def Ko (vs:List gy):Int × Int:=match firstTo (Dy vs) vs.length with
 | some k=>(3,(k:Int))
 | none=>(0,0)
theorem aoa {w:World} {v:Value} {ks:List cu} (h:bf 2 24 jm 0 w v ks):∀c,c∈ks->c.name.size<=maxLen:=fun c hc=>by
 obtain⟨k,hk,rfl⟩:=List.mem_iff_getElem.1 hc
 obtain⟨_,_,_,_,_,hx⟩:=h
 obtain⟨_,_,_,_,_,_,_,_,hR⟩:=hx k hk
 have h9:=hR.2
 unfold Len at h9
 unfold maxLen
 omega
theorem Ck.order {W w:World} {ns:List ay} {i:Nat} {x:ay} {b o cb EB:Nat} {G:List Int} {sb vb:Nat} {oa:Option Addr} {on oc:Nat} {D:List Nat} {C L:List cu->Option Nat} {N:Nat} (h:Ck W w ns i x b o cb EB G sb vb (.slice oa on oc) D C L N) (k:Nat) (hk:k<(aj x).length) :
  ∃g cv p,oa=some ⟨g,0,none⟩∧w.cell? ⟨g,k,none⟩=some (.pointer (some ⟨D.getD k 0,0,none⟩))∧dh w (D.getD k 0) 73 (Gu (aj x)[k] cv p (G.getD k 0) .nilFunc)∧C (aj x)[k].clock=some p∧bf 2 24 jm 0 W cv (aj x)[k].clock:=by
 obtain⟨cv,p,h4,h5,h6⟩:=h.sc.decl k hk
 have hdl:=h.sc.Eh
 rcases h.sc.ord.shape with ⟨h1,h2⟩|⟨g,cap,h1,_,h2,_⟩
 ·rw[h2] at hdl
  simp at hdl
  omega
 ·simp only[Value.slice.injEq] at h1
  have h3:=h.sc.ord.avz (g:=g) (c:=oc) (n:=on) (by rw[h1.1]) k (by rw[hdl];exact hk)
  exact⟨g,cv,p,h1.1,h3,h4,h5,h6⟩
set_option maxRecDepth 20000 in
set_option maxHeartbeats 8000000 in
theorem ap9 (W w:World) (ns:List ay) (i:Nat) (x:ay) (b o cb EB:Nat) (G:List Int) (sb vb:Nat) (ov:Value) (D:List Nat) (C L:List cu->Option Nat) (N:Nat) (h:Ck W w ns i x b o cb EB G sb vb ov D C L N) (hvl:(aj x).length<=10000) :
  Calls Tryz.prog 78 #[.pointer (some ⟨cb,0,none⟩)] w (O5 (Ko (aj x)) w):=by
 obtain⟨oa,oc,hov⟩:=h.sc.ord.slice
 rw[h.sc.Eh] at hov
 subst hov
 have c0:=h.blk.cell (i:=0) (v:=.pointer (some ⟨sb,0,none⟩)) rfl
 have s1:=h.sc.tq.cell (i:=1) (v:=.slice oa (aj x).length oc) rfl
 have HC:=hide h
 clear h
 obtain⟨PO,l7⟩:∃PO:Ending->World->Prop,PO=O5 (Ko (aj x)) w:=⟨_,rfl⟩
 rw[←l7]
 have qy:=hide l7
 clear l7
 go_enter Tryz.func78,Tryz.ntmps78
 go_wp2
 go_loopg [14] (aj x).length (fun gm iv wr=>∃k:Nat,k<=(aj x).length∧gm=(aj x).length-k∧iv=.int .i64 k∧Below w.heap.size w wr∧∀j,j<k->Dy (aj x) j=false)
 case atStart=>exact⟨0,Nat.zero_le _,by omega,rfl,Below.refl _ _,fun j hj=>absurd hj (Nat.not_lt_zero _)⟩
 case round =>
  obtain⟨k,hk,hg,rfl,hb,hno⟩:=hrel
  rename World=>wr
  have HG:=hide hg
  have HB:=hide hb
  have jo:=hide hno
  clear c0 s1 hg hno
  by_cases hlt:k<(aj x).length
  case neg =>
   have hke:k=(aj x).length:=by omega
   have gq:Hid (PO (.returned (.tuple #[.int .i64 0,.int .i64 0])) wr):=by
    rw[uh qy]
    unfold Ko
    rw[zk (fun j hj=>uh jo j (by omega))]
    exact hide ⟨rfl,uh HB⟩
   have Ec:¬(k:Int)<((aj x).length:Int):=by omega
   clear hke hb
   go_wp2
   exact uh gq
  have hck:=(uh HC).below hb
  obtain⟨g,cv,p,hoe,d0,hdb,hp,hcv⟩:=hck.order k hlt
  subst hoe
  have d3:=hdb.cell (i:=3) (v:=.pointer (some ⟨p,0,none⟩)) rfl
  have HIS:=hide (an8 W wr ns i x b o cb EB G sb vb _ D C L N hck _ p hp (aoa hcv))
  have hco:=azf (aj x) k hlt
  have Ec:(k:Int)<((aj x).length:Int):=by omega
  have yw:=hide hlt
  have Td:Hid (Dy (aj x) k=true->∀w',Below w.heap.size w w'->PO (.returned (.tuple #[.int .i64 3,.int .i64 (k:Int)])) w'):=fun h9 w' hb'=>by
   rw[uh qy]
   unfold Ko
   rw[Fe hlt h9 (uh jo)]
   exact⟨rfl,hb'⟩
  generalize Vj (aj x) (aj x)[k].clock=ok at HIS hco
  generalize D.getD k 0=dk at *
  clear hck hdb hp hcv hb hlt
  cases ok
  ·have HF:=hide (uh Td hco)
   clear Td hco
   go_wp2_with fail
   refine(uh HIS).mono ?_
   rintro e w1 ⟨rfl,hb1⟩
   have HE:=hide (uh HF w1 ((uh HB).trans (hb1.mono (uh HB).size)))
   clear hb1
   go_wp2
   exact uh HE
  ·have Lr:Hid (∀j,j<k+1->Dy (aj x) j=false):=fun j hj=>by
    by_cases c:j<k
    ·exact uh jo j c
    ·have e:j=k:=by omega
     rw[e,hco]
     rfl
   clear Td hco
   go_wp2_with fail
   refine(uh HIS).mono ?_
   rintro e w1 ⟨rfl,hb1⟩
   have HB1:=hide ((uh HB).trans (hb1.mono (uh HB).size))
   clear hb1
   go_wp2
   go_roundg ((aj x).length-(k+1))
   case measure =>
    have h8:=uh yw
    have h9:=uh HG
    omega
   case rel=>exact⟨k+1,uh yw,rfl,by go_num,uh HB1,uh Lr⟩
def Vh (n:Nat) (G:List Int) (ne:Nat):Int × Int:=match firstTo (fun k=>G.getD k 0 == -1) n with
 | some _=>(4,(ne:Int))
 | none=>(0,0)
set_option maxRecDepth 20000 in
set_option maxHeartbeats 8000000 in
theorem an2 (W w:World) (ns:List ay) (i:Nat) (x:ay) (b o cb EB:Nat) (G:List Int) (sb vb:Nat) (ov:Value) (D:List Nat) (C L:List cu->Option Nat) (N:Nat) (h:Ck W w ns i x b o cb EB G sb vb ov D C L N) (hvl:(aj x).length<=10000) :
  Calls Tryz.prog 80 #[.pointer (some ⟨cb,0,none⟩)] w (O5 (Vh (aj x).length G x.eqs.length) w):=by
 obtain⟨oa,oc,hov⟩:=h.sc.ord.slice
 rw[h.sc.Eh] at hov
 subst hov
 have c0:=h.blk.cell (i:=0) (v:=.pointer (some ⟨sb,0,none⟩)) rfl
 have s0:=h.sc.tq.cell (i:=0) (v:=.pointer (some ⟨b,o+i*5,none⟩)) rfl
 have s1:=h.sc.tq.cell (i:=1) (v:=.slice oa (aj x).length oc) rfl
 obtain⟨hbl,cs,hl,hc,v1,v2,v3,v4,rfl,hs,_,_,_,hq⟩:=h.node
 obtain⟨qa,qc,rfl⟩:=hq.shape
 have k4:=(h.sc.old.cell (p:=⟨b,_,none⟩) hbl).trans (hc 4 (by simp))
 simp only[List.getElem_cons_zero,List.getElem_cons_succ] at k4
 have HC:=hide h
 obtain⟨PO,l7⟩:∃PO:Ending->World->Prop,PO=O5 (Vh (aj x).length G x.eqs.length) w:=⟨_,rfl⟩
 rw[←l7]
 have qy:=hide l7
 clear l7 h hc hl hs hq
 go_enter Tryz.func80,Tryz.ntmps80
 go_wp2
 go_loopg [14] (aj x).length (fun gm iv wr=>∃k:Nat,k<=(aj x).length∧gm=(aj x).length-k∧iv=.int .i64 k∧w=wr∧∀j,j<k->(G.getD j 0 == -1)=false)
 case atStart=>exact⟨0,Nat.zero_le _,by omega,rfl,rfl,fun j hj=>absurd hj (Nat.not_lt_zero _)⟩
 case round =>
  obtain⟨k,hk,hg,rfl,rfl,hno⟩:=hrel
  have HG:=hide hg
  have jo:=hide hno
  clear hg hno
  by_cases hlt:k<(aj x).length
  case neg =>
   have hke:k=(aj x).length:=by omega
   have gq:Hid (PO (.returned (.tuple #[.int .i64 0,.int .i64 0])) w):=by
    rw[uh qy]
    unfold Vh
    rw[zk (fun j hj=>uh jo j (by omega))]
    exact hide ⟨rfl,Below.refl _ _⟩
   have Ec:¬(k:Int)<((aj x).length:Int):=by omega
   clear hke
   go_wp2
   exact uh gq
  obtain⟨g,cv,p,hoe,d0,hdb,hp,hcv⟩:=(uh HC).order k hlt
  subst hoe
  have d4:=hdb.cell (i:=4) (v:=.int .i64 (G.getD k 0)) rfl
  have Ec:(k:Int)<((aj x).length:Int):=by omega
  have yw:=hide hlt
  have Td:Hid ((G.getD k 0 == -1)=true->∀w',Below w.heap.size w w'->PO (.returned (.tuple #[.int .i64 4,.int .i64 (x.eqs.length:Int)])) w'):=fun h9 w' hb'=>by
   rw[uh qy]
   unfold Vh
   rw[Fe hlt h9 (uh jo)]
   exact⟨rfl,hb'⟩
  generalize hgk:G.getD k 0=gk9 at d4 Td
  have HGK:=hide hgk
  generalize D.getD k 0=dk at *
  clear hdb hp hcv hlt hgk
  by_cases he:gk9 = -1
  ·have HF:=hide (uh Td (by rw[he];rfl))
   subst he
   clear Td
   go_wp2_with fail
   go_quiet ((fail))
   go_wp2
   exact uh HF _ (jf (Below.refl _ _) _)
  ·have hne:(gk9 == -1)=false:=by rw[beq_eq_false_iff_ne];exact he
   have Lr:Hid (∀j,j<k+1->(G.getD j 0 == -1)=false):=fun j hj=>by
    by_cases c:j<k
    ·exact uh jo j c
    ·have e:j=k:=by omega
     rw[e,uh HGK]
     exact hne
   clear Td he
   go_wp2
   go_roundg ((aj x).length-(k+1))
   case measure =>
    have h8:=uh yw
    have h9:=uh HG
    omega
   case rel=>exact⟨k+1,uh yw,rfl,by go_num,rfl,uh Lr⟩
def X8 (R:Int) (w:World) (e:Ending) (w':World):Prop:=e=.returned (.int .i64 R)∧w'=w
set_option maxHeartbeats 1000000 in
theorem Xi (us:List Int) (a r:Int) (w:World) (oa:Option Addr) (oc:Nat) (ho:∀k (hk:k<us.length),∃b o,oa=some ⟨b,o,none⟩∧w.cell? ⟨b,o+k,none⟩=some (.int .i64 us[k])) (hl:us.length<=1000000) :
  Calls Tryz.prog 160 #[.slice oa us.length oc,.int .i64 a,.int .i64 r] w (X8 (if us.all (fun u=>u == a) then r else 0) w):=by
 have HO:=hide ho
 clear ho
 obtain⟨PO,l7⟩:∃PO:Ending->World->Prop,PO=X8 (if us.all (fun u=>u == a) then r else 0) w:=⟨_,rfl⟩
 rw[←l7]
 have qy:=hide l7
 clear l7
 go_enter Tryz.func160,Tryz.ntmps160
 go_wp2
 go_loopg [11] us.length (fun gm iv wr=>∃k:Nat,k<=us.length∧gm=us.length-k∧iv=.int .i64 k∧w=wr∧∀j (hj:j<us.length),j<k->us[j]=a)
 case atStart=>exact⟨0,Nat.zero_le _,by omega,rfl,rfl,fun j _ hj=>absurd hj (Nat.not_lt_zero _)⟩
 case round =>
  obtain⟨k,hk,hg,rfl,rfl,hno⟩:=hrel
  have HG:=hide hg
  have jo:=hide hno
  clear hg hno
  by_cases hlt:k<us.length
  case neg =>
   have HF:Hid (PO (.returned (.int .i64 r)) w):=by
    rw[uh qy,if_pos]
    ·exact hide ⟨rfl,rfl⟩
    ·rw[List.all_eq_true]
     intro u hu
     obtain⟨j,hj,rfl⟩:=List.mem_iff_getElem.1 hu
     rw[beq_iff_eq]
     exact uh jo j hj (by omega)
   have Ec:¬(k:Int)<(us.length:Int):=by omega
   clear qy
   go_wp2
   exact uh HF
  obtain⟨b,o,hoe,k0⟩:=uh HO k hlt
  subst hoe
  generalize hu:us[k]=u at k0
  have HU:Hid (∃h9:k<us.length,us[k]=u):=hide ⟨hlt,hu⟩
  have yw:=hide hlt
  have Ec:(k:Int)<(us.length:Int):=by omega
  clear hu hlt
  by_cases he:u=a
  ·have Lr:Hid (∀j (hj:j<us.length),j<k+1->us[j]=a):=fun j hj h9=>by
    by_cases c:j<k
    ·exact uh jo j hj c
    ·have e:j=k:=by omega
     subst e
     obtain⟨_,h8⟩:=uh HU
     exact h8.trans he
   rw[he] at k0
   have hee:(a == a)=true:=by simp
   have hnn:(a != a)=false:=by simp
   clear he HO HU
   go_wp2
   go_roundg (us.length-(k+1))
   case measure =>
    have h8:=uh yw
    have h9:=uh HG
    omega
   case rel=>exact⟨k+1,uh yw,rfl,by go_num,rfl,uh Lr⟩
  ·have HF:Hid (PO (.returned (.int .i64 0)) w):=by
    rw[uh qy,if_neg]
    ·exact hide ⟨rfl,rfl⟩
    ·rw[List.all_eq_true]
     intro h9
     obtain⟨h7,h8⟩:=uh HU
     have h6:=h9 _ (List.getElem_mem h7)
     rw[beq_iff_eq] at h6
     exact he (h8.symm.trans h6)
   have hne:(u == a)=false:=by rw[beq_eq_false_iff_ne];exact he
   have hnn:(u != a)=true:=by rw[bne_iff_ne];exact he
   clear he HO qy HU
   go_wp2
   exact uh HF
set_option maxHeartbeats 1000000 in
theorem ab3 (W w:World) (nv:Value) (vs:List gy) (G:List Int) (sb vb:Nat) (ov:Value) (D:List Nat) (C L:List cu->Option Nat) (N:Nat) (h:Sc W w nv .nilFunc vs G sb vb ov D C L N) (nm:ByteArray) (hn:nm.size<=maxLen) :
  Calls Tryz.prog 159 #[.pointer (some ⟨sb,0,none⟩),.string nm] w (Ans (.int .i64 (jg vs nm).type) w):=by
 have s2:=h.tq.cell (i:=2) (v:=.map (some vb)) rfl
 have hlk:∀nq,(Instr.lookup 76 (.map (some vb)) (.string nm) false).run Tryz.prog (w.drewN nq)=.ok (He vs D nm) (w.drewN nq):=fun nq=>by
  obtain⟨n,f',h1,h2,h3⟩:=h.vars
  have h9:=(h2.below (jf (Below.refl _ w) nq)).look (t:=76) Tryz.underlying9 Tryz.underlying76 (by kernel_rfl) hn
  rw[h3] at h9
  exact h9
 have Bg:=hlk 0
 unfold jg
 by_cases hl:jc vs nm<vs.length
 ·rw[dif_pos hl]
  obtain⟨cv,p,hdb,_⟩:=h.decl _ hl
  have d1:=hdb.cell (i:=1) (v:=.int .i64 vs[jc vs nm].type) rfl
  have hlk2:∀nq,(Instr.lookup 76 (.map (some vb)) (.string nm) false).run Tryz.prog (w.drewN nq)=.ok (.pointer (some ⟨D.getD (jc vs nm) 0,0,none⟩)) (w.drewN nq):=fun nq=>by
   have h9:=hlk nq
   unfold He at h9
   rw[if_pos hl] at h9
   exact h9
  have a2z:(Instr.lookup 76 (.map (some vb)) (.string nm) false).run Tryz.prog w=.ok (.pointer (some ⟨D.getD (jc vs nm) 0,0,none⟩)) w:=hlk2 0
  generalize vs[jc vs nm].type=ty at *
  generalize D.getD (jc vs nm) 0=dk at *
  clear h hlk Bg hdb hn
  have Rt:=hide hl
  go_enter Tryz.func159,Tryz.ntmps159
  go_wp2
  go_ret
  exact⟨rfl,Below.refl _ _⟩
 ·rw[dif_neg hl]
  have a2z:(Instr.lookup 76 (.map (some vb)) (.string nm) false).run Tryz.prog w=.ok (.pointer none) w:=by
   have h9:=Bg
   unfold He at h9
   rw[if_neg hl] at h9
   exact h9
  clear h hlk Bg hn hl
  go_enter Tryz.func159,Tryz.ntmps159
  go_wp2
  go_ret
  exact⟨rfl,Below.refl _ _⟩
end Go.Proofs.YtflcnhfakcgkeaaGreat
