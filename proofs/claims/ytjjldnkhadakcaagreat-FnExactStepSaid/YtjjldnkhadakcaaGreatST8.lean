import Derived.Test.YtjjldnkhadakcaaGreatST5
import Derived.Test.YtjjldnkhadakcaaGreatStepAll
namespace Go.Proofs.YtjjldnkhadakcaaGreat
open Go.RowKit
set_option linter.unusedSimpArgs false
set_option linter.unusedVariables false
theorem wpList_append_anyF {P : Program} {α : Type} (E : ElF P α) {R : Nat → World → List Value → α → Prop} (hRf : ∀ w cs x,R 0 w cs x → cs = E.f x) (w : World) {ops : Array Oper} {rest : List Oper} {o : Oper} {a : Act} {Q : Exit → Act → World → Prop} (hgd : o.guard = none) (s x : Operand)
  (ho : o.op = .call { callee:=.builtin .append,args:=#[s,x],argTypes:=#[E.ST,E.ST] })
  (base : Nat) (v : Value) (xs : List α) (hs : a.eval s = v) (hown : OwnV E w base v xs)
  (xv : Value) (hx : a.eval x = xv) (ys : List α) (hsl : SlAt E.sz E.byt R 0 w xv ys) (hb : (xs.length + ys.length) * E.byt ≤ 140737488355328) (hbase : base ≤ w.heap.size)
  (h : ∀ v' w',OwnV E w' base v' (xs ++ ys) → w.grownBy w' v.ownBlock → wpList P ops Q rest (a.put o.dst v') w') : wpList P ops Q (o :: rest) a w:=by
 rcases hown.shape with ⟨rfl,rfl⟩ | ⟨g,cap,rfl,_⟩
 ·obtain ⟨i,hi,hz0,hz1,hz2⟩:=info_parts E.hi
  obtain ⟨ax,cx,rfl,_,hn,hel⟩:=hsl
  cases ax with
  | none =>
   have hy : ys = []:=by
    cases ys with
    | nil => rfl
    | cons y ys =>
     obtain ⟨b,o,cs,hbo,_⟩:=hel 0 (by simp)
     cases hbo
   subst hy
   refine wpList_plain hgd fun K hK => ?_
   have hrun : (Builtin.append_ #[E.ST,E.ST] o.type #[.slice none 0 0,.slice none 0 cx]).run P w = .ok (.slice none 0 0) w:=by
    simp [Builtin.append_,run_underlying E.hT,sizeOf,typeInfo,hi,Builtin.lenOf,Builtin.firstCells]
   unfold Oper.wp execOp
   simp only [ho,resolve,invoke,builtin,Sem.run_bind,Sem.run_pure,Result.andThen_ok,List.map_toArray,List.map_cons,List.map_nil,hs,hx,hrun,List.length_nil]
   refine hK _ _ ?_
   have:=h (.slice none 0 0) w (by simpa using hown) (World.grownBy.refl w _)
   simpa using this
  | some ad =>
   have hcellA : ∀ j u,(ys.flatMap E.f)[j]? = some u → w.cell? (ad.add j) = some u:=fun j u hu => by
    have hj : j < ys.length * E.sz:=by
     have:=(List.getElem?_eq_some_iff.1 hu).1
     rwa [flat_len E.f E.sz E.hf] at this
    have hsz:=E.hsz
    have hdiv : j / E.sz < ys.length:=Nat.div_lt_of_lt_mul (by rw [Nat.mul_comm]; exact hj)
    have hmod : j % E.sz < E.sz:=Nat.mod_lt _ hsz
    have hjj : j / E.sz * E.sz + j % E.sz = j:=by rw [Nat.mul_comm]; exact Nat.div_add_mod j E.sz
    obtain ⟨b,oo,cs,hbo,_,_,hl,hc,hR⟩:=hel (j / E.sz) hdiv
    simp only [Option.some.injEq] at hbo
    subst hbo
    have ecs:=hRf _ _ _ hR
    subst ecs
    have hg:=flat_get E.f E.sz E.hf ys (j / E.sz) hdiv (j % E.sz) hmod
    rw [hjj,hu] at hg
    obtain ⟨hjl,hju⟩:=List.getElem?_eq_some_iff.1 hg.symm
    have hcc:=hc (j % E.sz) hjl
    rw [hju] at hcc
    rw [Addr.add_lit,← hcc]
    congr 2
    omega
   have hlen : ys.length ≤ 140737488355328:=hn
   refine wpList_append_own w hgd s x E.ST ho base E.T i _ E.sz E.byt E.hT hi hz0 hz1 hz2 E.hz E.hsz _ 0 [] hs hown ad ys.length cx (ys.flatMap E.f) hx (flat_len E.f E.sz E.hf ys) hcellA (fun u hu => ?_) (by simp [maxLen]; omega) (by simpa using hb) hbase ?_
   ·obtain ⟨y,_,hy⟩:=List.mem_flatMap.1 hu
    exact E.h1 y u hy
   ·intro v' w' h1 h2 h3
    refine h v' w' ?_ h2
    unfold OwnV
    simpa using h1
 ·exact wpList_append_allF E hRf w hgd s x ho base g cap xs hs hown xv hx ys hsl hb hbase (fun g' cap' w' h1 h2 => h _ w' h1 h2)
def ListOK (ks : List DClass) (n : Nat) (mv : Value) (pb : Nat) (v0 v1 v2 v3 : Value) (ots ens : List (List Int)) : Prop:=∀ (cls : Nat) (k : DClass) (W : World) (rb : Nat) (kc : List Value) (ot en : List Int) (vv : Value) (t : PL) (i : Nat) (post : List DStm) (x : VS) (cost : Int) (w : World) (sv : Value),LEnv ks n cls k W mv pb kc v0 v1 v2 v3 ots ens ot en → TreeAt ks k ot en t i post → SOK (varsOf k).length (fAt ks cls).length x → RunOwn w W.heap.size rb pb cls mv kc vv sv x.1 x.2 cost → Below W.heap.size W w →
  Calls Tryz.prog 87 #[.pointer (some ⟨rb,0,none⟩),.int .i64 (i : Int),.int .i64 ((i + t.flat.length : Nat) : Int)] w (LsPost9 ks n cls k W mv pb rb kc vv t x cost)
theorem fAt_len9 (ks : List DClass) (h : plansB ks = true) (i : Nat) (k : DClass) (hk : ks[i]? = some k) : (fAt ks i).length ≤ 20000:=(fok_of ks h).len i (List.getElem?_eq_some_iff.1 hk).1
theorem ownAtLo {w : World} {base lo : Nat} {v : Value} {xs : List Int} (h : OwnV elInt w base v xs) (hb : lo ≤ base) (hR : ∀ x,x ∈ xs → RInt lo w [.int .i64 x] x) (hn : xs.length ≤ 1000000) : SlAt 1 8 RInt lo w v xs:=by
 have hs : SlAt 1 8 RInt 0 w v xs:=h.at (R:=RInt) (fun x hx => hR x hx) (by show _ * 8 ≤ _; omega)
 obtain ⟨a,cap,rfl,h1,h2,hx⟩:=hs
 refine ⟨a,cap,rfl,h1,h2,fun i hi => ?_⟩
 obtain ⟨b,o,cs,e,_,hlt,hl,hc,hr⟩:=hx i hi
 subst e
 exact ⟨b,o,cs,rfl,Nat.le_trans hb (h.block b rfl),hlt,hl,hc,hr⟩
set_option maxRecDepth 20000 in
set_option maxHeartbeats 8000000 in
theorem walk_step (ks : List DClass) (hp : plansB ks = true) (n : Nat) (mv : Value) (pb : Nat) (v0 v1 v2 v3 : Value) (ots ens : List (List Int)) (W : World) (hm : SlAt 7 160 RClass 0 W mv ks) (hpl : SPlan W pb ks v0 v1 v2 v3 ots ens) (hL : ListOK ks n mv pb v0 v1 v2 v3 ots ens) (hW : WalkDoes ks mv pb n W) : WalkDoes ks mv pb (n + 1) W:=by
 intro c k hk hcn st ar stv arv w hB hst har hsl hal hs32 ha32
 have hci:=(List.getElem?_eq_some_iff.1 hk).1
 have hke:=(List.getElem?_eq_some_iff.1 hk).2
 have hmw:=hm.stays RClass_kept hB
 obtain ⟨_,mcap,hmv,_,hmn,hmx⟩:=hmw
 subst hmv
 obtain ⟨mb,mo,cs,rfl,_,hmb,hcl,hmc,hRC⟩:=hmx c hci
 rw [hke] at hRC
 have HRC:=hide hRC
 obtain ⟨a1,a2,a3,a4,a5,a6,rfl,hnm,k1,k2,k3,k4,k5,k6⟩:=hRC
 obtain ⟨i1,n1,rfl⟩:=k1.shape
 obtain ⟨i2,n2,rfl⟩:=k2.shape
 obtain ⟨i3,n3,rfl⟩:=k3.shape
 obtain ⟨i4,n4,rfl⟩:=k4.shape
 obtain ⟨i5,n5,rfl⟩:=k5.shape
 obtain ⟨i6,n6,rfl⟩:=k6.shape
 have m0:=hmc 0 (by simp)
 have m1:=hmc 1 (by simp)
 have m2:=hmc 2 (by simp)
 have m3:=hmc 3 (by simp)
 have m4:=hmc 4 (by simp)
 have m5:=hmc 5 (by simp)
 have m6:=hmc 6 (by simp)
 simp only [Nat.add_zero,List.getElem_cons_zero,List.getElem_cons_succ] at m0 m1 m2 m3 m4 m5 m6
 obtain ⟨sa,sc,hse⟩:=hst.shape
 obtain ⟨ra,rc,hre⟩:=har.shape
 subst hse hre
 have hcI : (c : Int) < (ks.length : Int):=by omega
 have HST:=hide hst
 have HAR:=hide har
 have HM:=hide hm
 have HPL:=hide hpl
 have HL:=hide hL
 have HW:=hide hW
 have HB:=hide hB
 clear hm hpl hL hW hB hst har hmx hmc hcl k1 k2 k3 k4 k5 k6
 obtain ⟨wB,hwB⟩ : ∃ wB,wB = (w.alloc (.cells #[.slice (some ⟨mb,mo,none⟩) ks.length mcap] 29)).alloc (.cells #[.string k.name,.slice i1 k.ins.length n1,.slice i2 k.outs.length n2,.slice i3 k.locs.length n3,.slice i4 k.mems.length n4,.slice i5 k.insts.length n5,.slice i6 k.body.length n6] 65):=⟨_,rfl⟩
 have hb1 : Below w.heap.size w (w.alloc (.cells #[.slice (some ⟨mb,mo,none⟩) ks.length mcap] 29)):=(Below.refl _ _).alloc (Nat.le_refl _) _
 have hbB : Below w.heap.size w wB:=by rw [hwB]; exact hb1.alloc hb1.size _
 have hsB : wB.heap.size = w.heap.size + 2:=by rw [hwB]; simp
 have x1 : BlkAt wB w.heap.size 29 #[.slice (some ⟨mb,mo,none⟩) ks.length mcap]:=by
  rw [hwB]
  exact (blk_box w _ _).below ((Below.refl (w.heap.size + 1) _).alloc (by simp) _) (by omega)
 have x2 : BlkAt wB (w.heap.size + 1) 65 #[.string k.name,.slice i1 k.ins.length n1,.slice i2 k.outs.length n2,.slice i3 k.locs.length n3,.slice i4 k.mems.length n4,.slice i5 k.insts.length n5,.slice i6 k.body.length n6]:=by
  rw [hwB]
  have h9:=blk_box (w.alloc (.cells #[.slice (some ⟨mb,mo,none⟩) ks.length mcap] 29)) #[.string k.name,.slice i1 k.ins.length n1,.slice i2 k.outs.length n2,.slice i3 k.locs.length n3,.slice i4 k.mems.length n4,.slice i5 k.insts.length n5,.slice i6 k.body.length n6] 65
  rw [World.size_alloc] at h9
  exact h9
 have b0:=x1.cell (i:=0) (v:=.slice (some ⟨mb,mo,none⟩) ks.length mcap) rfl
 have d0:=x2.cell (i:=0) (v:=.string k.name) rfl
 have d1:=x2.cell (i:=1) (v:=.slice i1 k.ins.length n1) rfl
 have d2:=x2.cell (i:=2) (v:=.slice i2 k.outs.length n2) rfl
 have d3:=x2.cell (i:=3) (v:=.slice i3 k.locs.length n3) rfl
 have d4:=x2.cell (i:=4) (v:=.slice i4 k.mems.length n4) rfl
 have d5:=x2.cell (i:=5) (v:=.slice i5 k.insts.length n5) rfl
 have d6:=x2.cell (i:=6) (v:=.slice i6 k.body.length n6) rfl
 have hfl:=fAt_len9 ks hp c k hk
 have hAl : Below wB.heap.size wB (wB.alloc (.cells #[] 3)).drew:=((Below.refl _ _).alloc (Nat.le_refl _) _).drew
 have hO0 : OwnV elInt (wB.alloc (.cells #[] 3)).drew wB.heap.size (.slice (some ⟨wB.heap.size,0,none⟩) 0 0) []:=OwnV.start (E:=elInt) wB wB.heap.size (Nat.le_refl _)
 have HSC : Hid (∀ w',Below wB.heap.size wB w' → w'.cell? ⟨w.heap.size,0,none⟩ = some (.slice (some ⟨mb,mo,none⟩) ks.length mcap) ∧ w'.cell? ⟨w.heap.size + 1,0,none⟩ = some (.string k.name) ∧ w'.cell? ⟨w.heap.size + 1,1,none⟩ = some (.slice i1 k.ins.length n1) ∧ w'.cell? ⟨w.heap.size + 1,2,none⟩ = some (.slice i2 k.outs.length n2) ∧ w'.cell? ⟨w.heap.size + 1,3,none⟩ = some (.slice i3 k.locs.length n3) ∧ w'.cell? ⟨w.heap.size + 1,4,none⟩ = some (.slice i4 k.mems.length n4) ∧ w'.cell? ⟨w.heap.size + 1,5,none⟩ = some (.slice i5 k.insts.length n5) ∧ w'.cell? ⟨w.heap.size + 1,6,none⟩ = some (.slice i6 k.body.length n6)):=fun w' hb' => by
  have hc : ∀ b o,b < wB.heap.size → w'.cell? ⟨b,o,none⟩ = wB.cell? ⟨b,o,none⟩:=fun b o hb => hb'.cell (p:=⟨b,o,none⟩) hb
  have hB1 : w.heap.size < wB.heap.size ∧ w.heap.size + 1 < wB.heap.size:=by omega
  exact ⟨(hc _ 0 hB1.1).trans b0,(hc _ 0 hB1.2).trans d0,(hc _ 1 hB1.2).trans d1,(hc _ 2 hB1.2).trans d2,(hc _ 3 hB1.2).trans d3,(hc _ 4 hB1.2).trans d4,(hc _ 5 hB1.2).trans d5,(hc _ 6 hB1.2).trans d6⟩
 have HO0:=hide hO0
 have HSS : Hid (∀ w',Below wB.heap.size wB w' → SlAt 1 8 RInt 0 w' (.slice sa st.length sc) st):=fun w' hb' => ((uh HST).stays RInt_kept hbB).stays RInt_kept hb'
 have hstl : (0 + st.length) * 8 ≤ 140737488355328:=by omega
 have HSTL:=hide hstl
 have HSL:=hide hsl
 have HAL:=hide hal
 have HSB:=hide hsB
 have HKE:=hide hke
 have HBB:=hide hbB
 have HAl:=hide hAl
 have HX2:=hide x2
 have hsz9:=hAl.size
 clear hsl hal hsB hke hfl hstl hbB x1 x2 hO0
 go_enter Tryz.func60,Tryz.ntmps60
 go_wp2
 rw [← hwB]
 clear hwB m0 m1 m2 m3 m4 m5 m6 hb1
 go_region_held3 (fun w' => w'.cell? ⟨w.heap.size,0,none⟩ = some (.slice (some ⟨mb,mo,none⟩) ks.length mcap) ∧ w'.cell? ⟨w.heap.size + 1,0,none⟩ = some (.string k.name) ∧ w'.cell? ⟨w.heap.size + 1,1,none⟩ = some (.slice i1 k.ins.length n1) ∧ w'.cell? ⟨w.heap.size + 1,2,none⟩ = some (.slice i2 k.outs.length n2) ∧ w'.cell? ⟨w.heap.size + 1,3,none⟩ = some (.slice i3 k.locs.length n3) ∧ w'.cell? ⟨w.heap.size + 1,4,none⟩ = some (.slice i4 k.mems.length n4) ∧ w'.cell? ⟨w.heap.size + 1,5,none⟩ = some (.slice i5 k.insts.length n5) ∧ w'.cell? ⟨w.heap.size + 1,6,none⟩ = some (.slice i6 k.body.length n6)) (first | exact uh HSC _ (Below.refl _ _).drew | exact uh HSC _ (uh HAl) | exact uh HSC _ (uh HB7) | exact uh HSC _ ((uh HB7).alloc (uh HB7).size _) | go_keep) (first | (refine step_append_allF elInt (R:=RInt) (fun _ _ _ h => h.1) _ rfl _ _ rfl wB.heap.size wB.heap.size 0 [] rfl (uh HO0) _ rfl st (uh HSS _ (uh HAl)) (uh HSTL) hsz9 ?_; intro g2 c2 w7 ho7 hg7; have HB7:=hide ((uh HO0).grown (uh HAl) hg7 hsz9 (Nat.le_refl _)); rw [List.nil_append,List.length_nil,Nat.zero_add] at ho7; have HO7:=hide ho7; clear ho7 hg7; simp only [List.length_nil,Nat.zero_add]))
 have hb78 : Below w7.heap.size w7 (w7.alloc (.cells #[.slice (some ⟨mb,mo,none⟩) ks.length mcap,.pointer (some ⟨pb,0,none⟩),.int .i64 (c : Int),.string k.name,.slice i1 k.ins.length n1,.slice i2 k.outs.length n2,.slice i3 k.locs.length n3,.slice i4 k.mems.length n4,.slice i5 k.insts.length n5,.slice i6 k.body.length n6,.slice none 0 0,.slice (some ⟨g2,0,none⟩) st.length c2,.int .i64 0] 127)):=(Below.refl _ _).alloc (Nat.le_refl _) _
 have hrun:=blk_box w7 #[.slice (some ⟨mb,mo,none⟩) ks.length mcap,.pointer (some ⟨pb,0,none⟩),.int .i64 (c : Int),.string k.name,.slice i1 k.ins.length n1,.slice i2 k.outs.length n2,.slice i3 k.locs.length n3,.slice i4 k.mems.length n4,.slice i5 k.insts.length n5,.slice i6 k.body.length n6,.slice none 0 0,.slice (some ⟨g2,0,none⟩) st.length c2,.int .i64 0] 127
 have hz78 : (w7.alloc (.cells #[.slice (some ⟨mb,mo,none⟩) ks.length mcap,.pointer (some ⟨pb,0,none⟩),.int .i64 (c : Int),.string k.name,.slice i1 k.ins.length n1,.slice i2 k.outs.length n2,.slice i3 k.locs.length n3,.slice i4 k.mems.length n4,.slice i5 k.insts.length n5,.slice i6 k.body.length n6,.slice none 0 0,.slice (some ⟨g2,0,none⟩) st.length c2,.int .i64 0] 127)).heap.size = w7.heap.size + 1:=by simp
 have hbw8 : Below w.heap.size w (w7.alloc (.cells #[.slice (some ⟨mb,mo,none⟩) ks.length mcap,.pointer (some ⟨pb,0,none⟩),.int .i64 (c : Int),.string k.name,.slice i1 k.ins.length n1,.slice i2 k.outs.length n2,.slice i3 k.locs.length n3,.slice i4 k.mems.length n4,.slice i5 k.insts.length n5,.slice i6 k.body.length n6,.slice none 0 0,.slice (some ⟨g2,0,none⟩) st.length c2,.int .i64 0] 127)):=((uh HBB).trans ((uh HB7).mono (uh HBB).size)).trans (hb78.mono (Nat.le_trans (uh HBB).size (uh HB7).size))
 have HO8:=hide ((uh HO7).below hb78)
 have HB78:=hide hb78
 have HZ78:=hide hz78
 have HBW8:=hide hbw8
 have HRUN:=hide hrun
 have q10:=hrun.cell (i:=10) (v:=.slice none 0 0) rfl
 have z10:=hrun.free 10
 have HAR8:=hide ((uh HAR).stays RInt_kept hbw8)
 have harl : ar.length ≤ 1000:=by
  have h9:=declB_len k (tree_of ks c k hk hp).2.2.2.2.1
  rw [vars_len] at h9
  have:=uh HAL
  omega
 have HNIL:=hide (OwnV.nil (E:=elInt) (w7.alloc (.cells #[.slice (some ⟨mb,mo,none⟩) ks.length mcap,.pointer (some ⟨pb,0,none⟩),.int .i64 (c : Int),.string k.name,.slice i1 k.ins.length n1,.slice i2 k.outs.length n2,.slice i3 k.locs.length n3,.slice i4 k.mems.length n4,.slice i5 k.insts.length n5,.slice i6 k.body.length n6,.slice none 0 0,.slice (some ⟨g2,0,none⟩) st.length c2,.int .i64 0] 127)) (w7.heap.size + 1))
 have HK8:=hide (uh HSC _ ((uh HB7).trans (hb78.mono (uh HB7).size)))
 clear hb78 hrun hz78 hbw8 b0 d0 d1 d2 d3 d4 d5 d6
 try clear hHeld
 generalize w7.alloc (.cells #[.slice (some ⟨mb,mo,none⟩) ks.length mcap,.pointer (some ⟨pb,0,none⟩),.int .i64 (c : Int),.string k.name,.slice i1 k.ins.length n1,.slice i2 k.outs.length n2,.slice i3 k.locs.length n3,.slice i4 k.mems.length n4,.slice i5 k.insts.length n5,.slice i6 k.body.length n6,.slice none 0 0,.slice (some ⟨g2,0,none⟩) st.length c2,.int .i64 0] 127) = w8 at *
 have hbnd : (([] : List Int).length + ar.length) * elInt.byt ≤ 140737488355328:=by simp [elInt]; omega
 go_wp2_with (at_builtin; go_must (refine wpList_append_anyF elInt (R:=RInt) (fun _ _ _ h => h.1) _ rfl _ _ rfl (w7.heap.size + 1) _ [] rfl (uh HNIL) _ rfl ar (uh HAR8) hbnd (by rw [uh HZ78]; exact Nat.le_refl _) ?_))
 intro v1' w9 ho9 hg9
 try rw [List.nil_append] at ho9
 obtain ⟨va1,vc1,hv1⟩:=ho9.slice
 subst hv1
 have hb89 : Below w8.heap.size w8 w9:=(uh HNIL).grown (Below.refl _ _) hg9 (Nat.le_refl _) (by rw [uh HZ78]; exact Nat.le_refl _)
 have hR9:=(uh HRUN).below hb89 (uh HRUN).lt
 have q10b:=hR9.cell (i:=10) (v:=.slice none 0 0) rfl
 have z10b:=hR9.free 10
 have hR9s:=hR9.set 10 (.slice va1 ar.length vc1)
 have hn9:=OwnV.notBlk' ho9 hR9 (by decide)
 have HO9 : Hid (OwnV elInt (w9.setCell ⟨w7.heap.size,10,none⟩ (.slice va1 ar.length vc1)) (w7.heap.size + 1) (.slice va1 ar.length vc1) ar):=ho9.ofBlock (fun b hb => Below.heap_setCell _ _ _ _ (fun e => by
  have e' : b = w7.heap.size:=e
  subst e'
  exact hn9 hb))
 have HR9 : Hid (BlkAt (w9.setCell ⟨w7.heap.size,10,none⟩ (.slice va1 ar.length vc1)) w7.heap.size 127 #[.slice (some ⟨mb,mo,none⟩) ks.length mcap,.pointer (some ⟨pb,0,none⟩),.int .i64 (c : Int),.string k.name,.slice i1 k.ins.length n1,.slice i2 k.outs.length n2,.slice i3 k.locs.length n3,.slice i4 k.mems.length n4,.slice i5 k.insts.length n5,.slice i6 k.body.length n6,.slice va1 ar.length vc1,.slice (some ⟨g2,0,none⟩) st.length c2,.int .i64 0]):=hR9s
 have HB9 : Hid (But [w7.heap.size] w8 (w9.setCell ⟨w7.heap.size,10,none⟩ (.slice va1 ar.length vc1))):=(But.of_below hb89).trans (But.setCell _ (p:=⟨w7.heap.size,10,none⟩) (List.mem_singleton.2 rfl) _)
 obtain ⟨D,hD⟩ : ∃ D,D = (varsOf k).length - ar.length:=⟨_,rfl⟩
 have hvD : ar.length + D = (varsOf k).length:=by
  rw [hD]
  have h9:=vars_len k
  have:=uh HAL
  omega
 have HVD:=hide hvD
 have HWBUT : Hid (∀ wr,But [w7.heap.size] w8 wr → Below w.heap.size w wr):=fun wr hbt => (uh HBW8).trans (hbt.below _ (uh HBW8).size (fun q hq => by
  rw [List.mem_singleton] at hq
  subst hq
  exact Nat.le_trans (uh HBB).size (uh HB7).size))
 have hvl9:=declB_len k (tree_of ks c k hk hp).2.2.2.2.1
 obtain ⟨xb,xo,xc,y,e1,hxb,e2,y',e3,hyr⟩:=row_at (uh HPL).vars c (by simpa using (List.getElem?_eq_some_iff.1 hk).1)
 simp only [List.cons.injEq,and_true] at e3
 subst e3
 rw [List.getElem_map,uh HKE] at hyr
 obtain ⟨ya,yc,hye⟩:=hyr.shape
 subst hye
 rw [List.length_map] at e1
 have HPV : Hid (∀ wr,Below w.heap.size w wr → wr.cell? ⟨pb,0,none⟩ = some (.slice (some ⟨xb,xo,none⟩) ks.length xc) ∧ wr.cell? ⟨xb,xo + c,none⟩ = some (.slice ya (varsOf k).length yc)):=fun wr hb => by
  have hBW:=(uh HB).trans (hb.mono (uh HB).size)
  exact ⟨(hBW.cell (p:=⟨pb,0,none⟩) (uh HPL).lt).trans ((uh HPL).c0.trans (by rw [e1])),(hBW.cell (p:=⟨xb,_,none⟩) hxb).trans e2⟩
 clear hvD hD ho9 hg9 hb89 hR9 hR9s hn9 e1 e2 hyr hxb q10 z10
 go_wp2
 generalize w9.setCell ⟨w7.heap.size,10,none⟩ (.slice va1 ar.length vc1) = w10 at *
 clear q10b z10b
 go_loopg [] D (fun gm wr => ∃ (u : Nat) (va : Option Addr) (vc : Nat),u ≤ D ∧ gm = D - u ∧ OwnV elInt wr (w7.heap.size + 1) (.slice va (ar.length + u) vc) (ar ++ List.replicate u 0) ∧ BlkAt wr w7.heap.size 127 #[.slice (some ⟨mb,mo,none⟩) ks.length mcap,.pointer (some ⟨pb,0,none⟩),.int .i64 (c : Int),.string k.name,.slice i1 k.ins.length n1,.slice i2 k.outs.length n2,.slice i3 k.locs.length n3,.slice i4 k.mems.length n4,.slice i5 k.insts.length n5,.slice i6 k.body.length n6,.slice va (ar.length + u) vc,.slice (some ⟨g2,0,none⟩) st.length c2,.int .i64 0] ∧ But [w7.heap.size] w8 wr)
 case atStart => exact ⟨0,va1,vc1,Nat.zero_le _,by omega,by simpa using uh HO9,uh HR9,uh HB9⟩
 case round =>
  clear HO9 HR9 HB9
  obtain ⟨u,va,vc,hu,hgu,ho,hr,hbt⟩:=hrel
  rename World => wr
  have HGU:=hide hgu
  have HO:=hide ho
  have HRR:=hide hr
  have HBT:=hide hbt
  obtain ⟨pv0,pv1⟩:=uh HPV wr (uh HWBUT wr hbt)
  have t10:=hr.cell (i:=10) (v:=.slice va (ar.length + u) vc) rfl
  have u10:=hr.free 10
  clear hgu
  clear ho hr hbt
  generalize hL9 : ar.length + u = L9 at *
  have HL9:=hide hL9
  clear hL9
  by_cases hul : u < D
  ·have hI : (L9 : Int) < ((varsOf k).length : Int):=by have:=uh HVD; have:=uh HL9; omega
   go_wp2_with fail
   go_quiet ((fail))
   have hd : Below wr.heap.size wr (wr.drewN nq):=below_dN (Below.refl _ _) nq
   have hR11:=(uh HRR).below hd (uh HRR).lt
   have HBT11 : Hid (But [w7.heap.size] w8 (wr.drewN nq)):=(uh HBT).trans (But.of_below hd)
   have HO11:=hide ((uh HO).below hd)
   have HR11:=hide hR11
   clear hd hR11 t10 u10 pv0 pv1 HBT HO HRR
   generalize wr.drewN nq = w11 at *
   have hA : Below w11.heap.size w11 (w11.alloc (.cells #[.int .i64 0] 3)):=(Below.refl _ _).alloc (Nat.le_refl _) _
   have q10:=(uh HR11).cell (i:=10) (v:=.slice va L9 vc) rfl
   have q10a:=((uh HR11).below hA (uh HR11).lt).cell (i:=10) (v:=.slice va L9 vc) rfl
   have HO12:=hide ((uh HO11).below hA)
   have HA:=hide hA
   have hbs : w7.heap.size + 1 ≤ (w11.alloc (.cells #[.int .i64 0] 3)).heap.size:=by
    have h1:=(uh HBT11).size
    have h2:=uh HZ78
    simp
    omega
   have hlr : (ar ++ List.replicate u (0 : Int)).length = L9:=by rw [List.length_append,List.length_replicate]; exact uh HL9
   have hbd9 : ((ar ++ List.replicate u (0 : Int)).length + 1) * elInt.byt ≤ 140737488355328:=by
    have h1:=uh HVD
    have h2:=uh HL9
    rw [hlr]
    show (L9 + 1) * 8 ≤ _
    omega
   have HBD9:=hide hbd9
   have HLR:=hide hlr
   have HREP : Hid (ar ++ List.replicate (u + 1) (0 : Int) = ar ++ List.replicate u 0 ++ [0]):=by
    refine hide ?_
    rw [List.replicate_succ',List.append_assoc]
   clear hA hbd9 hlr
   generalize ar ++ List.replicate u (0 : Int) = vl at *
   go_wp2_with (at_builtin; go_must (refine wpList_append_oneN elInt _ rfl _ _ rfl (w7.heap.size + 1) _ vl rfl (uh HO12) w11.heap.size 0 rfl (fun j u hu => by rw [World.cell?_alloc_at _ _ _ _ rfl]; simpa [elInt] using hu) (uh HBD9) hbs ?_))
   intro v' w13 ho13 hg13 hn13
   obtain ⟨va3,vc3,hv3⟩:=ho13.slice
   rw [List.length_append,uh HLR,List.length_singleton] at hv3
   subst hv3
   have hbt13 : But [w7.heap.size] w8 w13:=by
    have h1 : But [w7.heap.size] w8 (w11.alloc (.cells #[.int .i64 0] 3)):=(uh HBT11).trans (But.of_below (uh HA))
    refine h1.then (But.ofGrown hg13) (fun x hx => Or.inr ?_)
    have h2:=(uh HO12).block x (mem_blkL.1 hx)
    rw [uh HZ78]
    exact h2
   have hR13 : BlkAt w13 w7.heap.size 127 #[.slice (some ⟨mb,mo,none⟩) ks.length mcap,.pointer (some ⟨pb,0,none⟩),.int .i64 (c : Int),.string k.name,.slice i1 k.ins.length n1,.slice i2 k.outs.length n2,.slice i3 k.locs.length n3,.slice i4 k.mems.length n4,.slice i5 k.insts.length n5,.slice i6 k.body.length n6,.slice va L9 vc,.slice (some ⟨g2,0,none⟩) st.length c2,.int .i64 0]:=by
    have h1:=(uh HR11).below (uh HA) (uh HR11).lt
    refine (grown_keep hg13 h1.lt (fun e => ?_)).trans h1
    have h2:=(uh HO12).block _ e
    omega
   have q10c:=hR13.cell (i:=10) (v:=.slice va L9 vc) rfl
   have z10c:=hR13.free 10
   have hn3:=OwnV.notBlk' ho13 hR13 (by decide)
   have HO13 : Hid (OwnV elInt (w13.setCell ⟨w7.heap.size,10,none⟩ (.slice va3 (L9 + 1) vc3)) (w7.heap.size + 1) (.slice va3 (L9 + 1) vc3) (vl ++ [0])):=ho13.ofBlock (fun b hb => Below.heap_setCell _ _ _ _ (fun e => by
    have e' : b = w7.heap.size:=e
    subst e'
    exact hn3 hb))
   have HR13 : Hid (BlkAt (w13.setCell ⟨w7.heap.size,10,none⟩ (.slice va3 (L9 + 1) vc3)) w7.heap.size 127 #[.slice (some ⟨mb,mo,none⟩) ks.length mcap,.pointer (some ⟨pb,0,none⟩),.int .i64 (c : Int),.string k.name,.slice i1 k.ins.length n1,.slice i2 k.outs.length n2,.slice i3 k.locs.length n3,.slice i4 k.mems.length n4,.slice i5 k.insts.length n5,.slice i6 k.body.length n6,.slice va3 (L9 + 1) vc3,.slice (some ⟨g2,0,none⟩) st.length c2,.int .i64 0]):=hR13.set 10 (.slice va3 (L9 + 1) vc3)
   have HB13 : Hid (But [w7.heap.size] w8 (w13.setCell ⟨w7.heap.size,10,none⟩ (.slice va3 (L9 + 1) vc3))):=hbt13.trans (But.setCell _ (p:=⟨w7.heap.size,10,none⟩) (List.mem_singleton.2 rfl) _)
   have HL92 : Hid (ar.length + (u + 1) = L9 + 1):=by have:=uh HL9; refine hide ?_; omega
   clear ho13 hg13 hn13 hbt13 hR13 hn3 q10 q10a
   go_wp2
   go_roundg (D - (u + 1))
   case measure => have:=uh HGU; omega
   case rel => exact ⟨u + 1,va3,vc3,by omega,rfl,by rw [uh HL92,uh HREP]; exact uh HO13,by rw [uh HL92]; exact uh HR13,uh HB13⟩
  ·have hI : ¬ (L9 : Int) < ((varsOf k).length : Int):=by have:=uh HVD; have:=uh HL9; omega
   have hue : u = D:=by omega
   subst hue
   have hL9v : L9 = (varsOf k).length:=(uh HL9).symm.trans (uh HVD)
   have hsv : ar ++ List.replicate u (0 : Int) = startV k ar:=by
    unfold startV
    congr 2
    have:=uh HVD
    omega
   rw [hsv] at HO
   have HL9V:=hide hL9v
   clear hL9v hsv hu hul
   go_wp2_with fail
   go_quiet ((fail))
   have hd : Below wr.heap.size wr (wr.drewN nq):=below_dN (Below.refl _ _) nq
   have hR11:=(uh HRR).below hd (uh HRR).lt
   have hbt11 : But [w7.heap.size] w8 (wr.drewN nq):=(uh HBT).trans (But.of_below hd)
   have hO11:=(uh HO).below hd
   clear hd t10 u10 pv0 pv1 HBT HO HRR
   generalize wr.drewN nq = w11 at *
   have hzB7:=(uh HB7).size
   have hbB8 : Below wB.heap.size wB w8:=(uh HB7).trans ((uh HB78).mono hzB7)
   have hbB11 : Below wB.heap.size wB w11:=hbB8.trans (hbt11.below _ hbB8.size (fun q hq => by rw [List.mem_singleton] at hq; subst hq; exact hzB7))
   have hRO : RunOwn w11 wB.heap.size w7.heap.size pb c (.slice (some ⟨mb,mo,none⟩) ks.length mcap) [.string k.name,.slice i1 k.ins.length n1,.slice i2 k.outs.length n2,.slice i3 k.locs.length n3,.slice i4 k.mems.length n4,.slice i5 k.insts.length n5,.slice i6 k.body.length n6] (.slice va L9 vc) (.slice (some ⟨g2,0,none⟩) st.length c2) (startV k ar) st 0:=by
    have hlt7:=((uh HO7).lt g2 rfl).2
    refine ⟨hR11,hO11.lowB (by omega),(uh HO8).ofBlock (fun b hb => ?_),fun b hb hb2 => ?_,rfl,hzB7⟩
    ·have h1:=(uh HO8).lt b hb
     have h2 : b = g2:=by cases hb; rfl
     exact hbt11.block b h1.2 (by simp; omega)
    ·have h1:=(hO11.lt b hb).1
     have h2 : b = g2:=by cases hb2; rfl
     omega
   have hBW11 : Below w.heap.size w wB:=uh HBB
   obtain ⟨t1,t2,t3,t4,_,_⟩:=tree_of ks c k hk hp
   obtain ⟨ot,en,p1,p2,p3⟩:=(uh HPL).parts c k hk
   have hbWB : Below W.heap.size W wB:=(uh HB).trans (hBW11.mono (uh HB).size)
   have hLE : LEnv ks n c k wB (.slice (some ⟨mb,mo,none⟩) ks.length mcap) pb [.string k.name,.slice i1 k.ins.length n1,.slice i2 k.outs.length n2,.slice i3 k.locs.length n3,.slice i4 k.mems.length n4,.slice i5 k.insts.length n5,.slice i6 k.body.length n6] v0 v1 v2 v3 ots ens ot en:=⟨hp,hk,(uh HPL).stays hbWB,RClass_kept _ _ _ _ _ (Kept.of_below hBW11) (uh HRC),p1,p2,fun c' k' hk' hc' st' ar' sv' av' w' hb' => uh HW c' k' hk' hc' st' ar' sv' av' w' (hbWB.trans (hb'.mono hbWB.size)),by omega⟩
   have hTA : TreeAt ks k ot en (treeOf ks k) 0 []:=⟨t3,Nat.zero_le _,t4,by rw [List.drop_zero,List.append_nil]; exact t2.symm,p3⟩
   have hSO:=start_sok k (fAt ks c).length ar st (uh HAL) (uh HSL) ha32 hs32
   have hCL:=uh HL c k wB w7.heap.size [.string k.name,.slice i1 k.ins.length n1,.slice i2 k.outs.length n2,.slice i3 k.locs.length n3,.slice i4 k.mems.length n4,.slice i5 k.insts.length n5,.slice i6 k.body.length n6] ot en (.slice va L9 vc) (treeOf ks k) 0 [] (startV k ar,st) 0 w11 (.slice (some ⟨g2,0,none⟩) st.length c2) hLE hTA hSO hRO hbB11
   rw [t2,Nat.zero_add] at hCL
   have HSO2:=hide (run_sok ks c k hk hp (walkR ks n) ((walk_wok ks hp n).mono (by omega)) (treeOf ks k) t4 t3 _ hSO)
   have HWR : Hid (walkR ks (n + 1) c st ar = ((runR ks k (walkR ks n) (treeOf ks k) (startV k ar,st)).1.2,(((runR ks k (walkR ks n) (treeOf ks k) (startV k ar,st)).1.1.drop k.ins.length).take k.outs.length),(runR ks k (walkR ks n) (treeOf ks k) (startV k ar,st)).2)):=by
    refine hide ?_
    simp only [walkR,hk]
   have HCL:=hide hCL
   obtain ⟨e0,e1,e2,e3,e4,e5,e6,e7⟩:=uh HSC w11 hbB11
   have hbl9:=(tree_of ks c k hk hp).2.2.2.2.2
   clear hCL hLE hTA hSO hRO hbWB p1 p2 p3 t1 t2 t3 t4 hR11 hbt11 hO11 hbB11 hbB8 hBW11 e0 e1 e2 e3 e4 e5 e6
   go_wp2_with fail
   refine (uh HCL).mono ?_
   rintro e w12 ⟨rfl,⟨sv12,hR12⟩,hB12⟩
   generalize runR ks k (walkR ks n) (treeOf ks k) (startV k ar,st) = RR at hR12 HSO2 HWR
   obtain ⟨s12a,s12c,hs12⟩:=hR12.hs.slice
   subst hs12
   have hvl12 : RR.1.1.length = L9:=(uh HSO2).vl.trans (uh HL9V).symm
   have hv12 : OwnV elInt w12 wB.heap.size (.slice va RR.1.1.length vc) RR.1.1:=by
    rw [hvl12]
    exact hR12.hv
   have hvc : L9 ≤ vc:=by
    rcases hv12.shape with ⟨h8,h9⟩ | ⟨_,_,h8,_,_,h9⟩
    ·rw [← hvl12,h9]; exact Nat.zero_le _
    ·simp only [Value.slice.injEq] at h8
     rw [h8.2.2,← hvl12]
     exact h9
   obtain ⟨tno,htno⟩ : ∃ tno,tno = k.ins.length + k.outs.length:=⟨_,rfl⟩
   have hvls:=vars_len k
   have hL99:=uh HL9V
   have hwrn : IntKind.i64.wrap ((k.ins.length : Int) + (k.outs.length : Int)) = (tno : Int):=by
    rw [IntKind.wrap_i64]
    omega
   have hslV:=fun w' => cut_lh va L9 vc k.ins.length tno (by omega) (by omega) w'
   have HMIDV : Hid (∀ w',Below w12.heap.size w12 w' → SlAt 1 8 RInt 0 w' (.slice (if vc = k.ins.length then va else va.map (·.add (k.ins.length * 1))) (tno - k.ins.length) (vc - k.ins.length)) ((RR.1.1.drop k.ins.length).take k.outs.length)):=fun w' hb' => by
    have h1:=(hv12.below hb').midI (uh HSO2).v32 (by omega) k.ins.length (tno - k.ins.length) (by omega)
    rw [show k.outs.length = tno - k.ins.length by omega]
    exact h1
   have hout : ((RR.1.1.drop k.ins.length).take k.outs.length).length = k.outs.length:=by rw [List.length_take,List.length_drop]; omega
   generalize (.slice (if vc = k.ins.length then va else va.map (·.add (k.ins.length * 1))) (tno - k.ins.length) (vc - k.ins.length) : Value) = slV at hslV HMIDV
   obtain ⟨e0,e1,e2,e3,e4,e5,e6,e7⟩:=uh HSC w12 hB12
   have HR12:=hide hR12
   have HB12:=hide hB12
   obtain ⟨_,_,⟨g10,g11,g12⟩,_⟩:=hR12.cells
   have hbo : (0 + k.outs.length) * 8 ≤ 140737488355328:=by omega
   have HBO:=hide hbo
   have HOUT:=hide hout
   clear hR12 hB12 hv12 hvl12 hvc htno hvls hL99 hout hbo e0 e1 e4 e5 e6 e7 HCL
   generalize hOV : (RR.1.1.drop k.ins.length).take k.outs.length = OV at *
   have HSC2 : Hid (∀ w',Below w12.heap.size w12 w' → w'.cell? ⟨w7.heap.size,10,none⟩ = some (.slice va L9 vc) ∧ w'.cell? ⟨w.heap.size + 1,1,none⟩ = some (.slice i1 k.ins.length n1) ∧ w'.cell? ⟨w.heap.size + 1,2,none⟩ = some (.slice i2 k.outs.length n2)):=fun w' hb' => by
    have h1:=((uh HR12).later hb').cells.2.2.1.1
    obtain ⟨_,_,h2,h3,_⟩:=uh HSC w' ((uh HB12).trans (hb'.mono (uh HB12).size))
    exact ⟨h1,h2,h3⟩
   have hAl2 : Below w12.heap.size w12 (w12.alloc (.cells #[] 3)).drew:=((Below.refl _ _).alloc (Nat.le_refl _) _).drew
   have HO02 : Hid (OwnV elInt (w12.alloc (.cells #[] 3)).drew w12.heap.size (.slice (some ⟨w12.heap.size,0,none⟩) 0 0) []):=OwnV.start (E:=elInt) w12 w12.heap.size (Nat.le_refl _)
   have HAl2:=hide hAl2
   have hsz12:=hAl2.size
   have HOV:=hide hOV
   have HBO2 : Hid ((0 + OV.length) * 8 ≤ 140737488355328):=by rw [uh HOUT]; exact HBO
   clear hAl2 hOV g11 g12
   go_wp2_with fail
   go_region_held3 (fun w' => w'.cell? ⟨w7.heap.size,10,none⟩ = some (.slice va L9 vc) ∧ w'.cell? ⟨w.heap.size + 1,1,none⟩ = some (.slice i1 k.ins.length n1) ∧ w'.cell? ⟨w.heap.size + 1,2,none⟩ = some (.slice i2 k.outs.length n2)) (first | exact uh HSC2 _ (Below.refl _ _).drew | exact uh HSC2 _ (uh HAl2) | exact uh HSC2 _ (uh HB15) | go_keep) (first | (refine step_append_allF elInt (R:=RInt) (fun _ _ _ h => h.1) _ rfl _ _ rfl w12.heap.size w12.heap.size 0 [] rfl (uh HO02) slV rfl OV (uh HMIDV _ (uh HAl2)) (uh HBO2) hsz12 ?_; intro g15 c15 w15 ho15 hg15; have HB15:=hide ((uh HO02).grown (uh HAl2) hg15 hsz12 (Nat.le_refl _)); rw [List.nil_append,List.length_nil,Nat.zero_add] at ho15; have HO15:=hide ho15; clear ho15 hg15; simp only [List.length_nil,Nat.zero_add]))
   obtain ⟨_,_,⟨_,g11,g12⟩,_⟩:=((uh HR12).later (uh HB15)).cells
   have HS15:=hide ((uh HR12).later (uh HB15)).hs
   generalize hcw : IntKind.i64.wrap (0 + RR.2) = cwF at g12
   have HCW:=hide hcw
   clear hcw
   go_wp2_with fail
   go_quiet ((fail))
   have hdq : Below w15.heap.size w15 (w15.drewN nq):=below_dN (Below.refl _ _) nq
   have q64 : ∀ x,Q32 x → I64 x:=fun x h => by unfold Q32 at h; unfold I64; omega
   have HFIN : Hid (WkPost ks (n + 1) c st ar w (.returned (.tuple #[.slice s12a RR.1.2.length s12c,.slice (some ⟨g15,0,none⟩) OV.length c15,.int .i64 cwF])) (w15.drewN nq)):=by
    have h1:=uh HWR
    refine hide ⟨.slice s12a RR.1.2.length s12c,.slice (some ⟨g15,0,none⟩) OV.length c15,?_,?_,?_,?_⟩
    ·rw [h1,← uh HCW,Int.zero_add]
    ·rw [h1]
     exact ownAtLo ((uh HS15).below hdq) (Nat.le_trans (uh HBB).size (Nat.le_refl _)) (fun x hx => ⟨rfl,q64 x ((uh HSO2).s32 x hx)⟩) (by show RR.1.2.length ≤ _; have:=(uh HSO2).sl; have:=fAt_len9 ks hp c k hk; omega)
    ·rw [h1]
     show SlAt 1 8 RInt _ _ _ OV
     refine ownAtLo ((uh HO15).below hdq) (Nat.le_trans (uh HBB).size (uh HB12).size) (fun x hx => ⟨rfl,q64 x ((uh HSO2).v32 x ?_)⟩) (by rw [uh HOUT]; have:=vars_len k; have:=declB_len k (tree_of ks c k hk hp).2.2.2.2.1; omega)
     rw [← uh HOV] at hx
     exact List.mem_of_mem_drop (List.mem_of_mem_take hx)
    ·exact (((uh HBB).trans ((uh HB12).mono (uh HBB).size)).trans ((uh HB15).mono (Nat.le_trans (uh HBB).size (uh HB12).size))).trans (hdq.mono (Nat.le_trans (Nat.le_trans (uh HBB).size (uh HB12).size) (uh HB15).size))
   clear hdq q64
   generalize w15.drewN nq = w16 at *
   go_wp2
   go_ret3
   exact uh HFIN
end Go.Proofs.YtjjldnkhadakcaaGreat
