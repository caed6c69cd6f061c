import Derived.Test.YtflcnhfakcgkeaaGreatCS37
namespace Go.Proofs.YtflcnhfakcgkeaaGreat
open Go.RowKit Go.Shelf
set_option linter.unusedSimpArgs false
set_option linter.unusedVariables false
attribute [local go_sem] Oper.semAt_some
def LpI (x:ay) (G:List Int) (mb:Nat) (M1:List Int) (wL:World) {rd:List ByteArray} (pre:List (Rf rd)) (W:World):Prop :=
 ∃M',wL.grownBy W (some mb)∧dh W mb 3 (M'.map (Value.int .i64)).toArray∧MInv (D7 x G) x.eqs.length M'∧Ls x.eqs.length M1 M'∧∀y,y∈pre->∀v:Nat,G.getD (jc (aj x) y.1) 0=(v:Int)->uo M' v=2
def LpX (x:ay) (G:List Int) (mb rb:Nat) (wL:World) {rd:List ByteArray} (c:Code) (pre:List (Rf rd)) (W:World):Prop :=
 c=.ret∧(∃M':List Int,dh W mb 3 (M'.map (Value.int .i64)).toArray)∧dh W rb 4 #[.bool true]∧(W.os=wL.os∧W.tape=wL.tape∧W.output=wL.output∧wL.heap.size<=W.heap.size∧∀k,k<wL.heap.size->k≠mb->k≠rb->W.heap[k]?=wL.heap[k]?)∧∃u,u<x.eqs.length∧Tg (D7 x G) u u
theorem Np {W W':World} {row:Option Nat} {B k:Nat} (hg:W.grownBy W' row) (hr:∀r,row=some r->B<=r∧∃o:Obj,W.heap[r]?=some o∧o.isCells=false) (hk:k<B) (hkw:k<W.heap.size):W'.heap[k]?=W.heap[k]? :=
 hg.block k hkw (fun e=>by have:=(hr k e.symm).1;omega)
theorem LpI.own {x:ay} {G:List Int} {mb:Nat} {M1:List Int} {wL:World} {rd:List ByteArray} (hm:mb<wL.heap.size):OwnFrom wL.heap.size (LpI x G mb M1 wL (rd:=rd)):=fun s W W' row hs hg hr=>by
 obtain⟨M',h1,h2,h3,h4,h5⟩:=hs
 refine⟨M',⟨hg.os.trans h1.os,hg.tape.trans h1.tape,hg.output.trans h1.output,Nat.le_trans h1.size hg.size,fun k hk hne=>(Np hg hr hk (Nat.lt_of_lt_of_le hk h1.size)).trans (h1.block k hk hne)⟩,(Np hg hr hm (Nat.lt_of_lt_of_le hm h1.size)).trans h2,h3,h4,h5⟩
theorem LpX.own {x:ay} {G:List Int} {mb rb:Nat} {wL:World} {rd:List ByteArray} {c:Code} (hm:mb<wL.heap.size) (hr0:rb<wL.heap.size):OwnFrom wL.heap.size (LpX x G mb rb wL (rd:=rd) c):=fun s W W' row hs hg hr=>by
 obtain⟨h1,⟨M',h2⟩,h3,⟨a1,a2,a3,a4,a5⟩,h5⟩:=hs
 exact⟨h1,⟨M',(Np hg hr hm (Nat.lt_of_lt_of_le hm a4)).trans h2⟩,(Np hg hr hr0 (Nat.lt_of_lt_of_le hr0 a4)).trans h3,⟨hg.os.trans a1,hg.tape.trans a2,hg.output.trans a3,Nat.le_trans a4 hg.size,fun k hk h8 h9=>(Np hg hr hk (Nat.lt_of_lt_of_le hk a4)).trans (a5 k hk h8 h9)⟩,h5⟩
set_option maxRecDepth 100000 in
set_option maxHeartbeats 4000000 in
theorem ap6 (W0:World) (x:ay) (nb no:Nat) (G:List Int) (sb vb:Nat) (ov:Value) (D:List Nat) (C L:List cu->Option Nat) (N mb:Nat) (hok:aar x G) (c:Nat)
  (IH:∀(w:World) (M:List Int) (e:Nat),zs M<=c->e<x.eqs.length->Ti W0 w x nb no G sb vb ov D C L N mb M->MInv (D7 x G) x.eqs.length M->(∀u,u<x.eqs.length->uo M u=1->Tg (D7 x G) u e)->Calls Tryz.prog 110 #[.pointer (some ⟨sb,0,none⟩),.int .i64 (e:Int),.slice (some ⟨mb,0,none⟩) x.eqs.length x.eqs.length] w (V9 x G mb M e w))
  (w:World) (M:List Int) (h:Ti W0 w x nb no G sb vb ov D C L N mb M) (hi:MInv (D7 x G) x.eqs.length M) (e:Nat) (he:e<x.eqs.length) (hg:∀u,u<x.eqs.length->uo M u=1->Tg (D7 x G) u e) (h0:uo M e=0) (hz:zs M<=c+1) :
  Calls Tryz.prog 110 #[.pointer (some ⟨sb,0,none⟩),.int .i64 (e:Int),.slice (some ⟨mb,0,none⟩) x.eqs.length x.eqs.length] w (V9 x G mb M e w):=by
 have hml:e<M.length:=by rw[hi.len];exact he
 have m0:=Ji h.row e hml
 have hlt:=h.row.lt
 obtain⟨wA,hwA⟩:∃z,z=(((w.alloc (.cells #[.pointer (some ⟨sb,0,none⟩)] 50)).alloc (.cells #[.slice (some ⟨mb,0,none⟩) x.eqs.length x.eqs.length] 26)).alloc (.cells #[.bool false] 4)):=⟨_,rfl⟩
 have hA:Below w.heap.size w wA:=by rw[hwA];exact(((Below.refl _ w).alloc (Nat.le_refl _) _).alloc (by simp) _).alloc (by simp;omega) _
 have hzA:wA.heap.size=w.heap.size+3:=by rw[hwA];simp
 have g3:dh wA w.heap.size 50 #[.pointer (some ⟨sb,0,none⟩)]:=by
  have h9:=jd w #[.pointer (some ⟨sb,0,none⟩)] 50
  rw[hwA]
  exact(h9.below ((Below.refl _ _).alloc (Nat.le_refl _) (.cells #[.slice (some ⟨mb,0,none⟩) x.eqs.length x.eqs.length] 26)) h9.lt).below ((Below.refl _ _).alloc (Nat.le_refl _) (.cells #[.bool false] 4)) (by simp;omega)
 have g5:dh wA (w.heap.size+1) 26 #[.slice (some ⟨mb,0,none⟩) x.eqs.length x.eqs.length]:=by
  have h9:=jd (w.alloc (.cells #[.pointer (some ⟨sb,0,none⟩)] 50)) #[.slice (some ⟨mb,0,none⟩) x.eqs.length x.eqs.length] 26
  rw[show (w.alloc (.cells #[.pointer (some ⟨sb,0,none⟩)] 50)).heap.size=w.heap.size+1 from by simp] at h9
  rw[hwA]
  exact h9.below ((Below.refl _ _).alloc (Nat.le_refl _) (.cells #[.bool false] 4)) h9.lt
 have g6:dh wA (w.heap.size+1+1) 4 #[.bool false]:=by
  have h9:=jd ((w.alloc (.cells #[.pointer (some ⟨sb,0,none⟩)] 50)).alloc (.cells #[.slice (some ⟨mb,0,none⟩) x.eqs.length x.eqs.length] 26)) #[.bool false] 4
  rw[show ((w.alloc (.cells #[.pointer (some ⟨sb,0,none⟩)] 50)).alloc (.cells #[.slice (some ⟨mb,0,none⟩) x.eqs.length x.eqs.length] 26)).heap.size=w.heap.size+1+1 from by simp] at h9
  rw[hwA]
  exact h9
 have hAL:=h.below hA
 have m1:=Ji hAL.row e hml
 rw[h0] at m1
 have f1:=hAL.row.free e
 obtain⟨wS,Va⟩:∃z,z=wA.setCell ⟨mb,e,none⟩ (.int .i64 1):=⟨_,rfl⟩
 have hgS:wA.grownBy wS (some mb):=by rw[Va];exact H7 wA ⟨mb,e,none⟩ _
 have hrS:dh wS mb 3 ((M.set e 1).map (Value.int .i64)).toArray:=by rw[Va];exact adb hAL.row e 1
 have hSL:=hAL.turn hgS hrS
 have other:∀{b:Nat} {T:TypeId} {cs:Array Value},dh wA b T cs->b≠mb->dh wS b T cs:=fun {b T cs} hb hne=>hb.grown' hgS (fun e9=>hne (Option.some.inj e9))
 have s3:=other g3 (by omega)
 have s5:=other g5 (by omega)
 have s6:=other g6 (by omega)
 have hzS:wS.heap.size=w.heap.size+3:=by rw[Va,←hzA];simp[World.setCell]
 obtain⟨hbl,cs,hl,hc,v1,v2,v3,v4,rfl,hs,_,_,_,Lm⟩:=h.node
 obtain⟨eb,eo,aiz,hv4,hat⟩:=Lm.at' e he
 subst hv4
 have hat:At 4 Dt W0 eb (eo+e*4) x.eqs[e]:=hat
 have k4:=(hSL.sc.old.cell (p:=⟨nb,_,none⟩) hbl).trans (hc 4 (by simp))
 simp only[List.getElem_cons_zero,List.getElem_cons_succ] at k4
 have c3:=s3.cell (i:=0) (v:=.pointer (some ⟨sb,0,none⟩)) rfl
 have n0:=hSL.sc.tq.cell (i:=0) (v:=.pointer (some ⟨nb,no,none⟩)) rfl
 obtain⟨wL,hwL⟩:∃z,z=(wS.drew.alloc (.cells #[.pointer (some ⟨sb,0,none⟩)] 50)).alloc (.cells #[.pointer (some ⟨eb,eo+e*4,none⟩)] 83):=⟨_,rfl⟩
 have hL:Below wS.heap.size wS wL:=by rw[hwL];exact(((Below.refl _ wS).drew).alloc (Nat.le_refl _) _).alloc (by rw[World.size_alloc];exact Nat.le_succ _) _
 have HRA:Hid (Calls Tryz.prog 29 #[.pointer (some ⟨sb,0,none⟩),.pointer (some ⟨eb,eo+e*4,none⟩)] wS.drew fun e9 w'=>e9=.returned (.func (.func 50) #[] #[.pointer (some ⟨w.heap.size+3,0,none⟩),.pointer (some ⟨w.heap.size+4,0,none⟩)])∧w'=wL):=by
  have h9:=Zu sb eb (eo+e*4) wS.drew
  rw[show wS.drew.heap.size=w.heap.size+3 from hzS] at h9
  rw[hwL]
  exact hide h9
 have heI:(e:Int)<(x.eqs.length:Int):=by omega
 have he0:(0:Int)<=(e:Int):=by omega
 have cc3:wL.cell? ⟨w.heap.size,0,none⟩=some (.pointer (some ⟨sb,0,none⟩)):=(hL.cell (World.block_lt_of_cell? wS _ c3)).trans c3
 have cn0:wL.cell? ⟨sb,0,none⟩=some (.pointer (some ⟨nb,no,none⟩)):=(hL.cell (World.block_lt_of_cell? wS _ n0)).trans n0
 have ck4:wL.cell? ⟨nb,no+4,none⟩=some (.slice (some ⟨eb,eo,none⟩) x.eqs.length aiz):=(hL.cell (World.block_lt_of_cell? wS _ k4)).trans k4
 have HSL:=hide hSL
 have HL:=hide hL
 have HAT:=hide hat
 have S5:=hide s5
 have S6:=hide s6
 have S3:=hide s3
 have HGW:Hid (w.grownBy wL (some mb)):=hide (C9 (C9 (below_grown hA _) hgS) (below_grown hL _))
 have V4:Hid (dh wL (w.heap.size+3) 50 #[.pointer (some ⟨sb,0,none⟩)]∧dh wL (w.heap.size+4) 83 #[.pointer (some ⟨eb,eo+e*4,none⟩)]):=by
  have h9:=jd wS.drew #[.pointer (some ⟨sb,0,none⟩)] 50
  rw[show wS.drew.heap.size=w.heap.size+3 from hzS] at h9
  have h8:=jd (wS.drew.alloc (.cells #[.pointer (some ⟨sb,0,none⟩)] 50)) #[.pointer (some ⟨eb,eo+e*4,none⟩)] 83
  rw[show (wS.drew.alloc (.cells #[.pointer (some ⟨sb,0,none⟩)] 50)).heap.size=w.heap.size+4 from by rw[World.size_alloc];show wS.heap.size+1=_;omega] at h8
  rw[hwL]
  exact hide ⟨h9.below ((Below.refl _ _).alloc (Nat.le_refl _) _) h9.lt,h8⟩
 have HZL:Hid (wL.heap.size=w.heap.size+5):=by rw[hwL];refine hide ?_;rw[World.size_alloc,World.size_alloc];show wS.heap.size+1+1=_;omega
 have Ru:=hide hi
 have HHG:=hide hg
 have HH0:=hide h0
 have HHZ:=hide hz
 have ade:=hide hok
 have HIH:=hide IH
 have yw:=hide hlt
 obtain⟨PO,l7⟩:∃PO:Ending->World->Prop,PO=V9 x G mb M e w:=⟨_,rfl⟩
 rw[←l7]
 have qy:=hide l7
 rw[hwA] at m1 f1 Va
 clear hwL
 clear l7 h hi hg h0 hz hok IH hc hl hs Lm hat hSL hL s3 s5 s6 g3 g5 g6 hAL other hgS hrS m0 hA hzA hzS hbl hml
 refine(callsIn_wide (n:=8)).1 ?_
 refine callsIn_of_wp_marks Tryz.func110 rfl trivial ?_ rfl
 simp only[Tryz.ntmps110,List.size_toArray,List.length_cons,List.length_nil,Nat.reduceAdd,Nat.reduceSub,Array.replicate_succ,Array.replicate_zero,List.push_toArray,List.append_toArray,List.nil_append,List.cons_append]
 gi_wp2
 rw[←Va]
 clear m1 f1 Va hwA
 refine wpIn_wide.2 ?_
 go_region_held3 (fun w'=>w'.cell? ⟨w.heap.size,0,none⟩=some (.pointer (some ⟨sb,0,none⟩))∧w'.cell? ⟨sb,0,none⟩=some (.pointer (some ⟨nb,no,none⟩))∧w'.cell? ⟨nb,no+4,none⟩=some (.slice (some ⟨eb,eo,none⟩) x.eqs.length aiz)) (go_keep) (first|(go_at_call 29;refine(uh HRA).mono ?_;rintro e9 w2 ⟨rfl,hw2⟩;rw[hw2];clear hw2))
 gi_wp2
 have Rt:=hide ((uh HSL).below (uh HL))
 have HR9:Hid (ada W0 wL (.pointer (some ⟨nb,no,none⟩)) (aj x) G sb vb ov D C L N x.eqs[e] eb (eo+e*4) (w.heap.size+3) (w.heap.size+4)):=by
  have hmem:=List.getElem_mem he
  have ho:=uh ade
  exact hide ⟨(uh Rt).sc,uh HAT,(uh V4).1,(uh V4).2,ho.lh _ hmem,ho.lk _ hmem,ho.cd _ hmem,ho.cl _ hmem⟩
 refine wpIn_rangeFunc_ownF (F:=Fence.wide) rfl (by decide) (gf:=50) (lb:=#[.pointer (some ⟨w.heap.size+3,0,none⟩),.pointer (some ⟨w.heap.size+4,0,none⟩)]) rfl trivial (enters_of Tryz.func50 (by kernel_rfl) rfl) (agm W0 wL _ (aj x) G sb vb ov D C L N x.eqs[e] eb (eo+e*4) (w.heap.size+3) (w.heap.size+4) (uh HR9) 7 (by decide)) Bv.trans (avt (uh Rt).sc.old.size) (Below.refl _ _) (fun _=>rfl)
  (LpI x G mb (M.set e 1) wL) (LpX x G mb (w.heap.size+1+1) wL) (LpI.own (uh Rt).row.lt) (fun c=>LpX.own (uh Rt).row.lt (by rw[uh HZL];omega)) ?start (fun y=>{ tmps:=#[.pointer (some ⟨sb,0,none⟩),.int .i64 (e:Int),.slice (some ⟨mb,0,none⟩) x.eqs.length x.eqs.length,.pointer (some ⟨w.heap.size,0,none⟩),undef,.pointer (some ⟨w.heap.size+1,0,none⟩),.pointer (some ⟨w.heap.size+1+1,0,none⟩),.string y.1,undef,.slice (some ⟨mb,0,none⟩) x.eqs.length x.eqs.length,.int .i64 (e:Int),.pointer (some ⟨mb,e,none⟩),.int .i64 0,.bool false,undef,undef,undef,undef,undef,.slice (some ⟨mb,0,none⟩) x.eqs.length x.eqs.length,.int .i64 (e:Int),.pointer (some ⟨mb,e,none⟩),.pointer (some ⟨sb,0,none⟩),.pointer (some ⟨sb,0,none⟩),.pointer (some ⟨sb,0,none⟩),.pointer (some ⟨sb,0,none⟩),.pointer (some ⟨nb,no,none⟩),.pointer (some ⟨nb,no,none⟩),.pointer (some ⟨nb,no+4,none⟩),.slice (some ⟨eb,eo,none⟩) x.eqs.length aiz,.int .i64 (e:Int),.pointer (some ⟨eb,eo+e*4,none⟩),.func (.func 50) #[] #[.pointer (some ⟨w.heap.size+3,0,none⟩),.pointer (some ⟨w.heap.size+4,0,none⟩)],.string y.1,undef,undef,undef,undef,undef,undef,undef,undef,undef,undef,undef,undef,undef,undef,undef,undef,undef,undef,undef,undef],defers:=[] }) ?assign ?body ?done ?stop
 case start=>exact⟨M.set e 1,below_grown (Below.refl _ _) _,(uh Rt).row,(uh Ru).enter he (uh HH0),Ls.refl _ _,fun y hy=>by cases hy⟩
 case assign =>
  intro l y W K hK
  gi_wp2
  exact hK
 case body =>
  rintro l pre y W hI9 _
  have HI9:=hide hI9
  obtain⟨M',hgr,hrow,hinv,hstp,hcov⟩:=hI9
  have hLW:=(uh Rt).turn hgr hrow
  have keep:∀{b:Nat} {T:TypeId} {cs:Array Value},dh wS b T cs->b≠mb->dh W b T cs:=fun {b T cs} hb hne=>(hb.below (uh HL) hb.lt).grown' hgr (fun e9=>hne (Option.some.inj e9))
  have hl9:=uh yw
  have d3:=(keep (uh S3) (by omega)).cell (i:=0) (v:=.pointer (some ⟨sb,0,none⟩)) rfl
  have d5:=(keep (uh S5) (by omega)).cell (i:=0) (v:=.slice (some ⟨mb,0,none⟩) x.eqs.length x.eqs.length) rfl
  have s2:=hLW.sc.tq.cell (i:=2) (v:=.map (some vb)) rfl
  have hmem:=List.getElem_mem he
  obtain⟨hlk,hsz⟩:=(uh ade).nms _ hmem y.1 y.2
  obtain⟨dk,p,cv,Bg,hdb,_⟩:=hLW.sc.var y.1 hsz hlk
  have d4:=hdb.cell (i:=4) (v:=.int .i64 (G.getD (jc (aj x) y.1) 0)) rfl
  have hlk2:(Instr.lookup 76 (.map (some vb)) (.string y.1) false).run Tryz.prog W=.ok (.pointer (some ⟨dk,0,none⟩)) W:=Bg W (Below.refl _ _)
  have hgl:=(uh ade).giv _ hlk
  obtain⟨g,hge⟩:∃g,g=G.getD (jc (aj x) y.1) 0:=⟨_,rfl⟩
  rw[←hge] at d4 hgl
  by_cases hg0:0<=g
  ·obtain⟨gn,rfl⟩:=Int.eq_ofNat_of_zero_le hg0
   have hgn:gn<x.eqs.length:=by omega
   have ant:D7 x G e gn:=⟨he,y.1,y.2,hge.symm⟩
   have hel:e<M.length:=by rw[(uh Ru).len];exact he
   have HC9:=hide (uh HIH W M' gn (by
    have h1:=hstp.zero
    have h2:=ap5 M e 1 hel (uh HH0) (by decide)
    have h3:=uh HHZ
    omega) hgn hLW hinv (fun u hu hm=>by
    have h1:=(hstp.gray u hu).2 hm
    rw[En M e u 1 hel] at h1
    by_cases c:u=e
    ·subst c;exact .one ant
    ·rw[if_neg c] at h1
     exact .snoc (uh HHG u hu h1) ant))
   have as9:decide ((0:Int)<=(gn:Int))=true:=by simp
   have X3:=hide (keep (uh S6) (by omega))
   have a2c:=hide hinv
   have a2m:=hide hstp
   have U4:=hide hcov
   have HGR:=hide hgr
   have Py:=hide hrow
   have HGE:=hide hge
   clear hgr hrow hinv hstp hcov hLW keep hlk hsz Bg hdb hgl hge ant hel hmem
   gi_wp2_with fail
   refine⟨trivial,?_⟩
   refine(CallsIn.inRound l (callsIn_wide.2 (uh HC9))).mono ?_
   rintro e9 w3 ⟨r,M2,rfl,hg3,hr3,ht3,hf3⟩
   have hcells:∀(j:Nat) (o:Obj),some mb=some j->W.heap[j]?=some o->o.isCells=true:=fun j o e1 e2=>by
    rw[←Option.some.inj e1,uh Py] at e2
    rw[←Option.some.inj e2]
    rfl
   have HKO:=hide (KeepsOthers.of_grownBy hg3 hcells)
   have hb6:=(uh X3).grown' hg3 (fun e9=>by have:=Option.some.inj e9;omega)
   cases r
   ·obtain⟨q1,q2,q3⟩:=hf3 rfl
    have Rh:Hid (Bv W0.heap.size W w3):=Bv.Tf hg3 (Nat.le_trans (uh Rt).sc.old.size (uh HGR).size) (uh Rt).mlo ⟨_,Or.inl (uh Py)⟩
    have xw:Hid (LpI x G mb (M.set e 1) wL (pre++[y]) w3):=by
     refine hide ⟨M2,C9 (uh HGR) hg3,hr3,q1,(uh a2m).trans q2,fun y' hy' v hv=>?_⟩
     rcases List.mem_append.1 hy' with h9|h9
     ·have h8:=uh U4 y' h9 v hv
      refine q2.black v ?_ h8
      have h7:=(uh ade).giv _ ((uh ade).nms _ (List.getElem_mem he) y'.1 y'.2).1
      rw[hv] at h7
      omega
     ·rw[List.mem_singleton] at h9
      subst h9
      rw[←uh HGE] at hv
      have hvg:gn=v:=by omega
      rw[←hvg]
      exact q3
    clear hg3 hr3 ht3 hf3 q1 q2 q3 hb6 hcells
    gi_wp2
    exact⟨uh HKO,uh Rh,uh xw⟩
   ·obtain⟨u,hu,htg⟩:=ht3 rfl
    have b6:=hb6.cell (i:=0) (v:=.bool false) rfl
    have f6:=hb6.free 0
    have xw:Hid (KeepsOthers W (w3.setCell ⟨w.heap.size+1+1,0,none⟩ (.bool true))∧LpX x G mb (w.heap.size+1+1) wL .ret (pre++[y]) (w3.setCell ⟨w.heap.size+1+1,0,none⟩ (.bool true))):=by
     have Oj:=C9 (uh HGR) hg3
     have same:∀k,k≠w.heap.size+1+1->(w3.setCell ⟨w.heap.size+1+1,0,none⟩ (.bool true)).heap[k]?=w3.heap[k]?:=fun k hk=>Below.heap_setCell _ _ _ _ (by simpa using hk)
     refine hide ⟨(uh HKO).trans (KeepsOthers.setCell _ _ _),rfl,⟨M2,(same mb (by omega)).trans hr3⟩,hb6.set 0 (.bool true),⟨Oj.os,Oj.tape,Oj.output,by simpa[World.setCell] using Oj.size,fun k hk h8 h9=>(same k h9).trans (Oj.block k hk (fun e9=>h8 (Option.some.inj e9)))⟩,u,hu,htg⟩
    clear hg3 hr3 ht3 hf3 hb6 hcells htg
    gi_wp2
    exact uh xw
  ·have xw:Hid (LpI x G mb (M.set e 1) wL (pre++[y]) W):=by
    refine hide ⟨M',hgr,hrow,hinv,hstp,fun y' hy' v hv=>?_⟩
    rcases List.mem_append.1 hy' with h9|h9
    ·exact hcov y' h9 v hv
    ·rw[List.mem_singleton] at h9
     subst h9
     rw[←hge] at hv
     omega
   have as9:decide ((0:Int)<=g)=false:=decide_eq_false hg0
   clear hgr hrow hinv hstp hcov hLW keep hlk hsz Bg hdb hgl hge hmem hg0
   gi_wp2
   refine⟨trivial,?_⟩
   gi_wp2
   exact⟨KeepsOthers.refl _,Bv.refl _ _,uh xw⟩
 case done =>
  rintro D9 ys W hD hall ⟨M',hgr,hrow,hinv,hstp,hcov⟩ hK
  have hl9:=uh yw
  have keep:∀{b:Nat} {T:TypeId} {cs:Array Value},dh wS b T cs->b≠mb->dh W b T cs:=fun {b T cs} hb hne=>(hb.below (uh HL) hb.lt).grown' hgr (fun e9=>hne (Option.some.inj e9))
  have d5:=(keep (uh S5) (by omega)).cell (i:=0) (v:=.slice (some ⟨mb,0,none⟩) x.eqs.length x.eqs.length) rfl
  have hb6:=keep (uh S6) (by omega)
  have ata:e<M'.length:=by rw[hinv.len];exact he
  have me:=Ji hrow e ata
  have mz:=hrow.free e
  have hel:e<M.length:=by rw[(uh Ru).len];exact he
  have hm1:uo M' e=1:=(hstp.gray e he).1 (by rw[En M e e 1 hel,if_pos rfl])
  have hg2:=H7 W ⟨mb,e,none⟩ (.int .i64 2)
  have hr2:=adb hrow e 2
  have anu:=hb6.grown' hg2 (fun e9=>by have:=Option.some.inj e9;simp only at this;omega)
  have b6:=anu.cell (i:=0) (v:=.bool false) rfl
  have f6:=anu.free 0
  have atb:Hid (PO (.returned (.bool false)) (((W.setCell ⟨mb,e,none⟩ (.int .i64 2)).setCell ⟨w.heap.size+1+1,0,none⟩ (.bool false)).putObj D9 (.deferred none))):=by
   have hs1:(((W.setCell ⟨mb,e,none⟩ (.int .i64 2)).setCell ⟨w.heap.size+1+1,0,none⟩ (.bool false))).heap.size=W.heap.size:=by simp[World.setCell]
   have Zv:=grownBy_putObj' ((W.setCell ⟨mb,e,none⟩ (.int .i64 2)).setCell ⟨w.heap.size+1+1,0,none⟩ (.bool false)) D9 (.deferred none)
   have hDL:=hD
   have hZ:=uh HZL
   have same:∀k,k<W.heap.size->k≠D9->k≠w.heap.size+1+1->(((W.setCell ⟨mb,e,none⟩ (.int .i64 2)).setCell ⟨w.heap.size+1+1,0,none⟩ (.bool false)).putObj D9 (.deferred none)).heap[k]?=(W.setCell ⟨mb,e,none⟩ (.int .i64 2)).heap[k]?:=fun k h1 h2 h3=>(Zv.block k (by rw[hs1];exact h1) (fun e9=>h2 (Option.some.inj e9))).trans (Below.heap_setCell _ _ _ _ (by simpa using h3))
   have hgw:=C9 (uh HGW) hgr
   rw[uh qy]
   refine hide ⟨false,M'.set e 2,rfl,⟨Zv.os.trans hgw.os,Zv.tape.trans hgw.tape,Zv.output.trans hgw.output,Nat.le_trans hgw.size (by have:=Zv.size;rw[hs1] at this;exact this),fun k hk hne=>?_⟩,(same mb (Nat.lt_of_lt_of_le hl9 hgw.size) (by omega) (by omega)).trans hr2,fun h9=>(by cases h9),fun _=>⟨hinv.leave he hm1 (fun v hv=>?_),Ls.done (uh Ru) he (uh HH0) hstp hinv.len,?_⟩⟩
   ·have hne':k≠mb:=fun e9=>hne (by rw[e9])
    exact(same k (Nat.lt_of_lt_of_le hk hgw.size) (by omega) (by omega)).trans ((hg2.block k (Nat.lt_of_lt_of_le hk hgw.size) (fun e9=>hne' (Option.some.inj e9))).trans (hgw.block k hk hne))
   ·obtain⟨hu9,nm,hnm,hG⟩:=hv
    obtain⟨y,hy,hyn⟩:=hall nm hnm
    subst hyn
    have h7:=(uh ade).giv _ ((uh ade).nms _ (List.getElem_mem he) y.1 y.2).1
    rw[hG] at h7
    exact⟨by omega,hcov y hy v hG⟩
   ·rw[En M' e e 2 ata,if_pos rfl]
  have hK':((W.setCell ⟨mb,e,none⟩ (.int .i64 2)).setCell ⟨w.heap.size+1+1,0,none⟩ (.bool false)).heap[D9]?=some (.deferred (some [])):=((KeepsOthers.setCell W ⟨mb,e,none⟩ (.int .i64 2)).trans (KeepsOthers.setCell _ ⟨w.heap.size+1+1,0,none⟩ (.bool false))).same D9 _ hK rfl
  have hc5:(((W.setCell ⟨mb,e,none⟩ (.int .i64 2)).setCell ⟨w.heap.size+1+1,0,none⟩ (.bool false)).putObj D9 (.deferred none)).cell? ⟨w.heap.size+1+1,0,none⟩=some (.bool false):=cell_kept ((anu.set 0 (.bool false)).cell (i:=0) (v:=.bool false) rfl) (grownBy_putObj' _ D9 (.deferred none)) (fun r e9=>by cases e9;exact⟨_,hK',rfl⟩)
  have HK':=hide hK'
  have HC5:=hide hc5
  clear hgr hrow hinv hstp hcov keep hb6 ata hel hm1 hg2 hr2 anu hK' hc5 hall hK
  gi_wp2
  refine⟨by simp,.inl ⟨_,_,rfl,run_takeDeferred (uh HK'),?_⟩⟩
  refine⟨.bool false,?_,uh atb⟩
  simp[results,Tryz.f110,go_sem,uh HC5]
 case stop =>
  rintro D9 c pre W hD _ ⟨rfl,⟨M',hrow⟩,hrb,⟨a1,a2,a3,a4,a5⟩,ay1⟩ hK
  have hl9:=uh yw
  have hZ:=uh HZL
  have atb:Hid (PO (.returned (.bool true)) (W.putObj D9 (.deferred none))):=by
   have Zv:=grownBy_putObj' W D9 (.deferred none)
   have hgw:=uh HGW
   have hmL:=(uh Rt).row.lt
   rw[uh qy]
   refine hide ⟨true,M',rfl,⟨Zv.os.trans (a1.trans hgw.os),Zv.tape.trans (a2.trans hgw.tape),Zv.output.trans (a3.trans hgw.output),Nat.le_trans hgw.size (Nat.le_trans a4 Zv.size),fun k hk hne=>?_⟩,(Zv.block mb (Nat.lt_of_lt_of_le hmL a4) (fun e9=>by have:=Option.some.inj e9;omega)).trans hrow,fun _=>ay1,fun h9=>by cases h9⟩
   have hne':k≠mb:=fun e9=>hne (by rw[e9])
   exact(Zv.block k (Nat.lt_of_lt_of_le hk (Nat.le_trans hgw.size a4)) (fun e9=>by have:=Option.some.inj e9;omega)).trans ((a5 k (Nat.lt_of_lt_of_le hk hgw.size) hne' (by omega)).trans (hgw.block k hk hne))
  have hc5:(W.putObj D9 (.deferred none)).cell? ⟨w.heap.size+1+1,0,none⟩=some (.bool true):=cell_kept (hrb.cell (i:=0) (v:=.bool true) rfl) (grownBy_putObj' _ D9 (.deferred none)) (fun r e9=>by cases e9;exact⟨_,hK,rfl⟩)
  have HK':=hide hK
  have HC5:=hide hc5
  clear hrow hrb a1 a2 a3 a4 a5 ay1 hK hc5
  gi_wp2
  refine⟨by simp,.inl ⟨_,_,rfl,run_takeDeferred (uh HK'),?_⟩⟩
  refine⟨.bool true,?_,uh atb⟩
  simp[results,Tryz.f110,go_sem,uh HC5]
end Go.Proofs.YtflcnhfakcgkeaaGreat
