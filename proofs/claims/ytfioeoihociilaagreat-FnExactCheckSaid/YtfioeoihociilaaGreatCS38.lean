import Derived.Test.YtfioeoihociilaaGreatCS37
namespace Go.Proofs.YtfioeoihociilaaGreat
open Go.RowKit Go.Shelf
set_option linter.unusedSimpArgs false
set_option linter.unusedVariables false
attribute [local go_sem] Oper.semAt_some
def LpI (x : DNode) (G : List Int) (mb : Nat) (M1 : List Int) (wL : World) {rd : List ByteArray} (pre : List (NmIn rd)) (W : World) : Prop :=
 ∃ M',wL.grownBy W (some mb) ∧ BlkAt W mb 3 (M'.map (Value.int .i64)).toArray ∧ MInv (edgP x G) x.eqs.length M' ∧ MStep x.eqs.length M1 M' ∧ ∀ y,y ∈ pre → ∀ v : Nat,G.getD (lookN (allV x) y.1) 0 = (v : Int) → mkA M' v = 2
def LpX (x : DNode) (G : List Int) (mb rb : Nat) (wL : World) {rd : List ByteArray} (c : Code) (pre : List (NmIn rd)) (W : World) : Prop :=
 c = .ret ∧ (∃ M' : List Int,BlkAt W mb 3 (M'.map (Value.int .i64)).toArray) ∧ BlkAt W rb 4 #[.bool true] ∧ (W.os = wL.os ∧ W.tape = wL.tape ∧ W.output = wL.output ∧ wL.heap.size ≤ W.heap.size ∧ ∀ k,k < wL.heap.size → k ≠ mb → k ≠ rb → W.heap[k]? = wL.heap[k]?) ∧ ∃ u,u < x.eqs.length ∧ Tg (edgP x G) u u
theorem grown_off {W W' : World} {row : Option Nat} {B k : Nat} (hg : W.grownBy W' row) (hr : ∀ r,row = some r → B ≤ r ∧ ∃ o : Obj,W.heap[r]? = some o ∧ o.isCells = false) (hk : k < B) (hkw : k < W.heap.size) : W'.heap[k]? = W.heap[k]? :=
 hg.block k hkw (fun e => by have:=(hr k e.symm).1; omega)
theorem LpI.own {x : DNode} {G : List Int} {mb : Nat} {M1 : List Int} {wL : World} {rd : List ByteArray} (hm : mb < wL.heap.size) : OwnFrom wL.heap.size (LpI x G mb M1 wL (rd:=rd)):=fun s W W' row hs hg hr => by
 obtain ⟨M',h1,h2,h3,h4,h5⟩:=hs
 refine ⟨M',⟨hg.os.trans h1.os,hg.tape.trans h1.tape,hg.output.trans h1.output,Nat.le_trans h1.size hg.size,fun k hk hne => (grown_off hg hr hk (Nat.lt_of_lt_of_le hk h1.size)).trans (h1.block k hk hne)⟩,(grown_off hg hr hm (Nat.lt_of_lt_of_le hm h1.size)).trans h2,h3,h4,h5⟩
theorem LpX.own {x : DNode} {G : List Int} {mb rb : Nat} {wL : World} {rd : List ByteArray} {c : Code} (hm : mb < wL.heap.size) (hr0 : rb < wL.heap.size) : OwnFrom wL.heap.size (LpX x G mb rb wL (rd:=rd) c):=fun s W W' row hs hg hr => by
 obtain ⟨h1,⟨M',h2⟩,h3,⟨a1,a2,a3,a4,a5⟩,h5⟩:=hs
 exact ⟨h1,⟨M',(grown_off hg hr hm (Nat.lt_of_lt_of_le hm a4)).trans h2⟩,(grown_off hg hr hr0 (Nat.lt_of_lt_of_le hr0 a4)).trans h3,⟨hg.os.trans a1,hg.tape.trans a2,hg.output.trans a3,Nat.le_trans a4 hg.size,fun k hk h8 h9 => (grown_off hg hr hk (Nat.lt_of_lt_of_le hk a4)).trans (a5 k hk h8 h9)⟩,h5⟩
set_option maxRecDepth 100000 in
set_option maxHeartbeats 4000000 in
theorem loops_new (W0 : World) (x : DNode) (nb no : Nat) (G : List Int) (sb vb : Nat) (ov : Value) (D : List Nat) (C L : List DCond → Option Nat) (N mb : Nat) (hok : LpOK x G) (c : Nat)
  (IH : ∀ (w : World) (M : List Int) (e : Nat),zs M ≤ c → e < x.eqs.length → LpIn W0 w x nb no G sb vb ov D C L N mb M → MInv (edgP x G) x.eqs.length M → (∀ u,u < x.eqs.length → mkA M u = 1 → Tg (edgP x G) u e) → Calls Tryz.prog 65 #[.pointer (some ⟨sb,0,none⟩),.int .i64 (e : Int),.slice (some ⟨mb,0,none⟩) x.eqs.length x.eqs.length] w (LpPost x G mb M e w))
  (w : World) (M : List Int) (h : LpIn W0 w x nb no G sb vb ov D C L N mb M) (hi : MInv (edgP x G) x.eqs.length M) (e : Nat) (he : e < x.eqs.length) (hg : ∀ u,u < x.eqs.length → mkA M u = 1 → Tg (edgP x G) u e) (h0 : mkA M e = 0) (hz : zs M ≤ c + 1) :
  Calls Tryz.prog 65 #[.pointer (some ⟨sb,0,none⟩),.int .i64 (e : Int),.slice (some ⟨mb,0,none⟩) x.eqs.length x.eqs.length] w (LpPost x G mb M e w):=by
 have hml : e < M.length:=by rw [hi.len]; exact he
 have m0:=row_cellI h.row e hml
 have hlt:=h.row.lt
 obtain ⟨wA,hwA⟩ : ∃ z,z = (((w.alloc (.cells #[.pointer (some ⟨sb,0,none⟩)] 47)).alloc (.cells #[.slice (some ⟨mb,0,none⟩) x.eqs.length x.eqs.length] 80)).alloc (.cells #[.bool false] 4)):=⟨_,rfl⟩
 have hA : Below w.heap.size w wA:=by rw [hwA]; exact (((Below.refl _ w).alloc (Nat.le_refl _) _).alloc (by simp) _).alloc (by simp; omega) _
 have hzA : wA.heap.size = w.heap.size + 3:=by rw [hwA]; simp
 have g3 : BlkAt wA w.heap.size 47 #[.pointer (some ⟨sb,0,none⟩)]:=by
  have h9:=blk_box w #[.pointer (some ⟨sb,0,none⟩)] 47
  rw [hwA]
  exact (h9.below ((Below.refl _ _).alloc (Nat.le_refl _) (.cells #[.slice (some ⟨mb,0,none⟩) x.eqs.length x.eqs.length] 80)) h9.lt).below ((Below.refl _ _).alloc (Nat.le_refl _) (.cells #[.bool false] 4)) (by simp; omega)
 have g5 : BlkAt wA (w.heap.size + 1) 80 #[.slice (some ⟨mb,0,none⟩) x.eqs.length x.eqs.length]:=by
  have h9:=blk_box (w.alloc (.cells #[.pointer (some ⟨sb,0,none⟩)] 47)) #[.slice (some ⟨mb,0,none⟩) x.eqs.length x.eqs.length] 80
  rw [show (w.alloc (.cells #[.pointer (some ⟨sb,0,none⟩)] 47)).heap.size = w.heap.size + 1 from by simp] at h9
  rw [hwA]
  exact h9.below ((Below.refl _ _).alloc (Nat.le_refl _) (.cells #[.bool false] 4)) h9.lt
 have g6 : BlkAt wA (w.heap.size + 1 + 1) 4 #[.bool false]:=by
  have h9:=blk_box ((w.alloc (.cells #[.pointer (some ⟨sb,0,none⟩)] 47)).alloc (.cells #[.slice (some ⟨mb,0,none⟩) x.eqs.length x.eqs.length] 80)) #[.bool false] 4
  rw [show ((w.alloc (.cells #[.pointer (some ⟨sb,0,none⟩)] 47)).alloc (.cells #[.slice (some ⟨mb,0,none⟩) x.eqs.length x.eqs.length] 80)).heap.size = w.heap.size + 1 + 1 from by simp] at h9
  rw [hwA]
  exact h9
 have hAL:=h.below hA
 have m1:=row_cellI hAL.row e hml
 rw [h0] at m1
 have f1:=hAL.row.free e
 obtain ⟨wS,hwS⟩ : ∃ z,z = wA.setCell ⟨mb,e,none⟩ (.int .i64 1):=⟨_,rfl⟩
 have hgS : wA.grownBy wS (some mb):=by rw [hwS]; exact set_grown wA ⟨mb,e,none⟩ _
 have hrS : BlkAt wS mb 3 ((M.set e 1).map (Value.int .i64)).toArray:=by rw [hwS]; exact row_setI hAL.row e 1
 have hSL:=hAL.turn hgS hrS
 have other : ∀ {b : Nat} {T : TypeId} {cs : Array Value},BlkAt wA b T cs → b ≠ mb → BlkAt wS b T cs:=fun {b T cs} hb hne => hb.grown' hgS (fun e9 => hne (Option.some.inj e9))
 have s3:=other g3 (by omega)
 have s5:=other g5 (by omega)
 have s6:=other g6 (by omega)
 have hzS : wS.heap.size = w.heap.size + 3:=by rw [hwS,← hzA]; simp [World.setCell]
 obtain ⟨hbl,cs,hl,hc,v1,v2,v3,v4,rfl,hs,_,_,_,hqs⟩:=h.node
 obtain ⟨eb,eo,ecap,hv4,hat⟩:=hqs.at' e he
 subst hv4
 have hat : At 4 REq W0 eb (eo + e * 4) x.eqs[e]:=hat
 have k4:=(hSL.sc.old.cell (p:=⟨nb,_,none⟩) hbl).trans (hc 4 (by simp))
 simp only [List.getElem_cons_zero,List.getElem_cons_succ] at k4
 have c3:=s3.cell (i:=0) (v:=.pointer (some ⟨sb,0,none⟩)) rfl
 have n0:=hSL.sc.sblk.cell (i:=0) (v:=.pointer (some ⟨nb,no,none⟩)) rfl
 obtain ⟨wL,hwL⟩ : ∃ z,z = (wS.drew.alloc (.cells #[.pointer (some ⟨sb,0,none⟩)] 47)).alloc (.cells #[.pointer (some ⟨eb,eo + e * 4,none⟩)] 128):=⟨_,rfl⟩
 have hL : Below wS.heap.size wS wL:=by rw [hwL]; exact (((Below.refl _ wS).drew).alloc (Nat.le_refl _) _).alloc (by rw [World.size_alloc]; exact Nat.le_succ _) _
 have HRA : Hid (Calls Tryz.prog 93 #[.pointer (some ⟨sb,0,none⟩),.pointer (some ⟨eb,eo + e * 4,none⟩)] wS.drew fun e9 w' => e9 = .returned (.func (.func 118) #[] #[.pointer (some ⟨w.heap.size + 3,0,none⟩),.pointer (some ⟨w.heap.size + 4,0,none⟩)]) ∧ w' = wL):=by
  have h9:=readAtOnce_ok sb eb (eo + e * 4) wS.drew
  rw [show wS.drew.heap.size = w.heap.size + 3 from hzS] at h9
  rw [hwL]
  exact hide h9
 have heI : (e : Int) < (x.eqs.length : Int):=by omega
 have he0 : (0 : Int) ≤ (e : Int):=by omega
 have cc3 : wL.cell? ⟨w.heap.size,0,none⟩ = some (.pointer (some ⟨sb,0,none⟩)):=(hL.cell (World.block_lt_of_cell? wS _ c3)).trans c3
 have cn0 : wL.cell? ⟨sb,0,none⟩ = some (.pointer (some ⟨nb,no,none⟩)):=(hL.cell (World.block_lt_of_cell? wS _ n0)).trans n0
 have ck4 : wL.cell? ⟨nb,no + 4,none⟩ = some (.slice (some ⟨eb,eo,none⟩) x.eqs.length ecap):=(hL.cell (World.block_lt_of_cell? wS _ k4)).trans k4
 have HSL:=hide hSL
 have HL:=hide hL
 have HAT:=hide hat
 have S5:=hide s5
 have S6:=hide s6
 have S3:=hide s3
 have HGW : Hid (w.grownBy wL (some mb)):=hide (grown_trans (grown_trans (below_grown hA _) hgS) (below_grown hL _))
 have HBB : Hid (BlkAt wL (w.heap.size + 3) 47 #[.pointer (some ⟨sb,0,none⟩)] ∧ BlkAt wL (w.heap.size + 4) 128 #[.pointer (some ⟨eb,eo + e * 4,none⟩)]):=by
  have h9:=blk_box wS.drew #[.pointer (some ⟨sb,0,none⟩)] 47
  rw [show wS.drew.heap.size = w.heap.size + 3 from hzS] at h9
  have h8:=blk_box (wS.drew.alloc (.cells #[.pointer (some ⟨sb,0,none⟩)] 47)) #[.pointer (some ⟨eb,eo + e * 4,none⟩)] 128
  rw [show (wS.drew.alloc (.cells #[.pointer (some ⟨sb,0,none⟩)] 47)).heap.size = w.heap.size + 4 from by rw [World.size_alloc]; show wS.heap.size + 1 = _; omega] at h8
  rw [hwL]
  exact hide ⟨h9.below ((Below.refl _ _).alloc (Nat.le_refl _) _) h9.lt,h8⟩
 have HZL : Hid (wL.heap.size = w.heap.size + 5):=by rw [hwL]; refine hide ?_; rw [World.size_alloc,World.size_alloc]; show wS.heap.size + 1 + 1 = _; omega
 have HHI:=hide hi
 have HHG:=hide hg
 have HH0:=hide h0
 have HHZ:=hide hz
 have HHOK:=hide hok
 have HIH:=hide IH
 have HLT:=hide hlt
 obtain ⟨PO,hPO⟩ : ∃ PO : Ending → World → Prop,PO = LpPost x G mb M e w:=⟨_,rfl⟩
 rw [← hPO]
 have HPO:=hide hPO
 rw [hwA] at m1 f1 hwS
 clear hwL
 clear hPO h hi hg h0 hz hok IH hc hl hs hqs hat hSL hL s3 s5 s6 g3 g5 g6 hAL other hgS hrS m0 hA hzA hzS hbl hml
 refine (callsIn_wide (n:=8)).1 ?_
 refine callsIn_of_wp_marks Tryz.func65 rfl trivial ?_ rfl
 simp only [Tryz.ntmps65,List.size_toArray,List.length_cons,List.length_nil,Nat.reduceAdd,Nat.reduceSub,Array.replicate_succ,Array.replicate_zero,List.push_toArray,List.append_toArray,List.nil_append,List.cons_append]
 gi_wp2
 rw [← hwS]
 clear m1 f1 hwS hwA
 refine wpIn_wide.2 ?_
 go_region_held3 (fun w' => w'.cell? ⟨w.heap.size,0,none⟩ = some (.pointer (some ⟨sb,0,none⟩)) ∧ w'.cell? ⟨sb,0,none⟩ = some (.pointer (some ⟨nb,no,none⟩)) ∧ w'.cell? ⟨nb,no + 4,none⟩ = some (.slice (some ⟨eb,eo,none⟩) x.eqs.length ecap)) (go_keep) (first | (go_at_call 93; refine (uh HRA).mono ?_; rintro e9 w2 ⟨rfl,hw2⟩; rw [hw2]; clear hw2))
 gi_wp2
 have HLL:=hide ((uh HSL).below (uh HL))
 have HR9 : Hid (RaIn W0 wL (.pointer (some ⟨nb,no,none⟩)) (allV x) G sb vb ov D C L N x.eqs[e] eb (eo + e * 4) (w.heap.size + 3) (w.heap.size + 4) mb):=by
  have hmem:=List.getElem_mem he
  have ho:=uh HHOK
  exact hide ⟨(uh HLL).sc,uh HAT,(uh HBB).1,(uh HBB).2,⟨_,(uh HLL).row⟩,(uh HLL).mlo,ho.lh _ hmem,ho.lk _ hmem,ho.cd _ hmem,ho.cl _ hmem⟩
 refine wpIn_rangeFunc_ownF (F:=Fence.wide) rfl (by decide) (gf:=118) (lb:=#[.pointer (some ⟨w.heap.size + 3,0,none⟩),.pointer (some ⟨w.heap.size + 4,0,none⟩)]) rfl trivial (enters_of Tryz.func118 (by kernel_rfl) rfl) (rao_stops W0 wL _ (allV x) G sb vb ov D C L N x.eqs[e] eb (eo + e * 4) (w.heap.size + 3) (w.heap.size + 4) mb (uh HR9) 7 (by decide)) KpM.trans (kpM_b (Nat.le_refl _)) (Below.refl _ _) (fun _ => rfl)
  (LpI x G mb (M.set e 1) wL) (LpX x G mb (w.heap.size + 1 + 1) wL) (LpI.own (uh HLL).row.lt) (fun c => LpX.own (uh HLL).row.lt (by rw [uh HZL]; omega)) ?start (fun y => { tmps:=#[.pointer (some ⟨sb,0,none⟩),.int .i64 (e : Int),.slice (some ⟨mb,0,none⟩) x.eqs.length x.eqs.length,.pointer (some ⟨w.heap.size,0,none⟩),undef,.pointer (some ⟨w.heap.size + 1,0,none⟩),.pointer (some ⟨w.heap.size + 1 + 1,0,none⟩),.string y.1,undef,.slice (some ⟨mb,0,none⟩) x.eqs.length x.eqs.length,.int .i64 (e : Int),.pointer (some ⟨mb,e,none⟩),.int .i64 0,.bool false,undef,undef,undef,undef,undef,.slice (some ⟨mb,0,none⟩) x.eqs.length x.eqs.length,.int .i64 (e : Int),.pointer (some ⟨mb,e,none⟩),.pointer (some ⟨sb,0,none⟩),.pointer (some ⟨sb,0,none⟩),.pointer (some ⟨sb,0,none⟩),.pointer (some ⟨sb,0,none⟩),.pointer (some ⟨nb,no,none⟩),.pointer (some ⟨nb,no,none⟩),.pointer (some ⟨nb,no + 4,none⟩),.slice (some ⟨eb,eo,none⟩) x.eqs.length ecap,.int .i64 (e : Int),.pointer (some ⟨eb,eo + e * 4,none⟩),.func (.func 118) #[] #[.pointer (some ⟨w.heap.size + 3,0,none⟩),.pointer (some ⟨w.heap.size + 4,0,none⟩)],.string y.1,undef,undef,undef,undef,undef,undef,undef,undef,undef,undef,undef,undef,undef,undef,undef,undef,undef,undef,undef,undef],defers:=[] }) ?assign ?body ?done ?stop
 case start => exact ⟨M.set e 1,below_grown (Below.refl _ _) _,(uh HLL).row,(uh HHI).enter he (uh HH0),MStep.refl _ _,fun y hy => by cases hy⟩
 case assign =>
  intro l y W K hK
  gi_wp2
  exact hK
 case body =>
  rintro l pre y W hI9 _
  have HI9:=hide hI9
  obtain ⟨M',hgr,hrow,hinv,hstp,hcov⟩:=hI9
  have hLW:=(uh HLL).turn hgr hrow
  have keep : ∀ {b : Nat} {T : TypeId} {cs : Array Value},BlkAt wS b T cs → b ≠ mb → BlkAt W b T cs:=fun {b T cs} hb hne => (hb.below (uh HL) hb.lt).grown' hgr (fun e9 => hne (Option.some.inj e9))
  have hl9:=uh HLT
  have d3:=(keep (uh S3) (by omega)).cell (i:=0) (v:=.pointer (some ⟨sb,0,none⟩)) rfl
  have d5:=(keep (uh S5) (by omega)).cell (i:=0) (v:=.slice (some ⟨mb,0,none⟩) x.eqs.length x.eqs.length) rfl
  have s2:=hLW.sc.sblk.cell (i:=2) (v:=.map (some vb)) rfl
  have hmem:=List.getElem_mem he
  obtain ⟨hlk,hsz⟩:=(uh HHOK).nms _ hmem y.1 y.2
  obtain ⟨dk,p,cv,hlk1,hdb,_⟩:=hLW.sc.var y.1 hsz hlk
  have d4:=hdb.cell (i:=4) (v:=.int .i64 (G.getD (lookN (allV x) y.1) 0)) rfl
  have hlk2 : (Instr.lookup 84 (.map (some vb)) (.string y.1) false).run Tryz.prog W = .ok (.pointer (some ⟨dk,0,none⟩)) W:=hlk1 W (Below.refl _ _)
  have hgl:=(uh HHOK).giv _ hlk
  obtain ⟨g,hge⟩ : ∃ g,g = G.getD (lookN (allV x) y.1) 0:=⟨_,rfl⟩
  rw [← hge] at d4 hgl
  by_cases hg0 : 0 ≤ g
  ·obtain ⟨gn,rfl⟩:=Int.eq_ofNat_of_zero_le hg0
   have hgn : gn < x.eqs.length:=by omega
   have hedge : edgP x G e gn:=⟨he,y.1,y.2,hge.symm⟩
   have hel : e < M.length:=by rw [(uh HHI).len]; exact he
   have HC9:=hide (uh HIH W M' gn (by
    have h1:=hstp.zero
    have h2:=zs_set M e 1 hel (uh HH0) (by decide)
    have h3:=uh HHZ
    omega) hgn hLW hinv (fun u hu hm => by
    have h1:=(hstp.gray u hu).2 hm
    rw [mk_set M e u 1 hel] at h1
    by_cases c : u = e
    ·subst c; exact .one hedge
    ·rw [if_neg c] at h1
     exact .snoc (uh HHG u hu h1) hedge))
   have hgeI : decide ((0 : Int) ≤ (gn : Int)) = true:=by simp
   have HB6:=hide (keep (uh S6) (by omega))
   have HINV:=hide hinv
   have HSTP:=hide hstp
   have HCOV:=hide hcov
   have HGR:=hide hgr
   have HROW:=hide hrow
   have HGE:=hide hge
   clear hgr hrow hinv hstp hcov hLW keep hlk hsz hlk1 hdb hgl hge hedge hel hmem
   gi_wp2_with fail
   refine ⟨trivial,?_⟩
   refine (CallsIn.inRound l (callsIn_wide.2 (uh HC9))).mono ?_
   rintro e9 w3 ⟨r,M2,rfl,hg3,hr3,ht3,hf3⟩
   have hcells : ∀ (j : Nat) (o : Obj),some mb = some j → W.heap[j]? = some o → o.isCells = true:=fun j o e1 e2 => by
    rw [← Option.some.inj e1,uh HROW] at e2
    rw [← Option.some.inj e2]
    rfl
   have HKO:=hide (KeepsOthers.of_grownBy hg3 hcells)
   have hb6:=(uh HB6).grown' hg3 (fun e9 => by have:=Option.some.inj e9; omega)
   cases r
   ·obtain ⟨q1,q2,q3⟩:=hf3 rfl
    have HKP : Hid (KpM wL.heap.size mb W w3):=KpM.ofGrown hg3 (uh HGR).size ⟨_,hr3⟩
    have HNX : Hid (LpI x G mb (M.set e 1) wL (pre ++ [y]) w3):=by
     refine hide ⟨M2,grown_trans (uh HGR) hg3,hr3,q1,(uh HSTP).trans q2,fun y' hy' v hv => ?_⟩
     rcases List.mem_append.1 hy' with h9 | h9
     ·have h8:=uh HCOV y' h9 v hv
      refine q2.black v ?_ h8
      have h7:=(uh HHOK).giv _ ((uh HHOK).nms _ (List.getElem_mem he) y'.1 y'.2).1
      rw [hv] at h7
      omega
     ·rw [List.mem_singleton] at h9
      subst h9
      rw [← uh HGE] at hv
      have hvg : gn = v:=by omega
      rw [← hvg]
      exact q3
    clear hg3 hr3 ht3 hf3 q1 q2 q3 hb6 hcells
    gi_wp2
    exact ⟨uh HKO,uh HKP,uh HNX⟩
   ·obtain ⟨u,hu,htg⟩:=ht3 rfl
    have b6:=hb6.cell (i:=0) (v:=.bool false) rfl
    have f6:=hb6.free 0
    have HNX : Hid (KeepsOthers W (w3.setCell ⟨w.heap.size + 1 + 1,0,none⟩ (.bool true)) ∧ LpX x G mb (w.heap.size + 1 + 1) wL .ret (pre ++ [y]) (w3.setCell ⟨w.heap.size + 1 + 1,0,none⟩ (.bool true))):=by
     have hgr3:=grown_trans (uh HGR) hg3
     have same : ∀ k,k ≠ w.heap.size + 1 + 1 → (w3.setCell ⟨w.heap.size + 1 + 1,0,none⟩ (.bool true)).heap[k]? = w3.heap[k]?:=fun k hk => Below.heap_setCell _ _ _ _ (by simpa using hk)
     refine hide ⟨(uh HKO).trans (KeepsOthers.setCell _ _ _),rfl,⟨M2,(same mb (by omega)).trans hr3⟩,hb6.set 0 (.bool true),⟨hgr3.os,hgr3.tape,hgr3.output,by simpa [World.setCell] using hgr3.size,fun k hk h8 h9 => (same k h9).trans (hgr3.block k hk (fun e9 => h8 (Option.some.inj e9)))⟩,u,hu,htg⟩
    clear hg3 hr3 ht3 hf3 hb6 hcells htg
    gi_wp2
    exact uh HNX
  ·have HNX : Hid (LpI x G mb (M.set e 1) wL (pre ++ [y]) W):=by
    refine hide ⟨M',hgr,hrow,hinv,hstp,fun y' hy' v hv => ?_⟩
    rcases List.mem_append.1 hy' with h9 | h9
    ·exact hcov y' h9 v hv
    ·rw [List.mem_singleton] at h9
     subst h9
     rw [← hge] at hv
     omega
   have hgeI : decide ((0 : Int) ≤ g) = false:=decide_eq_false hg0
   clear hgr hrow hinv hstp hcov hLW keep hlk hsz hlk1 hdb hgl hge hmem hg0
   gi_wp2
   refine ⟨trivial,?_⟩
   gi_wp2
   exact ⟨KeepsOthers.refl _,KpM.refl _ _ _,uh HNX⟩
 case done =>
  rintro D9 ys W hD hall ⟨M',hgr,hrow,hinv,hstp,hcov⟩ hK
  have hl9:=uh HLT
  have keep : ∀ {b : Nat} {T : TypeId} {cs : Array Value},BlkAt wS b T cs → b ≠ mb → BlkAt W b T cs:=fun {b T cs} hb hne => (hb.below (uh HL) hb.lt).grown' hgr (fun e9 => hne (Option.some.inj e9))
  have d5:=(keep (uh S5) (by omega)).cell (i:=0) (v:=.slice (some ⟨mb,0,none⟩) x.eqs.length x.eqs.length) rfl
  have hb6:=keep (uh S6) (by omega)
  have hel' : e < M'.length:=by rw [hinv.len]; exact he
  have me:=row_cellI hrow e hel'
  have mz:=hrow.free e
  have hel : e < M.length:=by rw [(uh HHI).len]; exact he
  have hm1 : mkA M' e = 1:=(hstp.gray e he).1 (by rw [mk_set M e e 1 hel,if_pos rfl])
  have hg2:=set_grown W ⟨mb,e,none⟩ (.int .i64 2)
  have hr2:=row_setI hrow e 2
  have hb62:=hb6.grown' hg2 (fun e9 => by have:=Option.some.inj e9; simp only at this; omega)
  have b6:=hb62.cell (i:=0) (v:=.bool false) rfl
  have f6:=hb62.free 0
  have HPO2 : Hid (PO (.returned (.bool false)) (((W.setCell ⟨mb,e,none⟩ (.int .i64 2)).setCell ⟨w.heap.size + 1 + 1,0,none⟩ (.bool false)).putObj D9 (.deferred none))):=by
   have hs1 : (((W.setCell ⟨mb,e,none⟩ (.int .i64 2)).setCell ⟨w.heap.size + 1 + 1,0,none⟩ (.bool false))).heap.size = W.heap.size:=by simp [World.setCell]
   have hgp:=grownBy_putObj' ((W.setCell ⟨mb,e,none⟩ (.int .i64 2)).setCell ⟨w.heap.size + 1 + 1,0,none⟩ (.bool false)) D9 (.deferred none)
   have hDL:=hD
   have hZ:=uh HZL
   have same : ∀ k,k < W.heap.size → k ≠ D9 → k ≠ w.heap.size + 1 + 1 → (((W.setCell ⟨mb,e,none⟩ (.int .i64 2)).setCell ⟨w.heap.size + 1 + 1,0,none⟩ (.bool false)).putObj D9 (.deferred none)).heap[k]? = (W.setCell ⟨mb,e,none⟩ (.int .i64 2)).heap[k]?:=fun k h1 h2 h3 => (hgp.block k (by rw [hs1]; exact h1) (fun e9 => h2 (Option.some.inj e9))).trans (Below.heap_setCell _ _ _ _ (by simpa using h3))
   have hgw:=grown_trans (uh HGW) hgr
   rw [uh HPO]
   refine hide ⟨false,M'.set e 2,rfl,⟨hgp.os.trans hgw.os,hgp.tape.trans hgw.tape,hgp.output.trans hgw.output,Nat.le_trans hgw.size (by have:=hgp.size; rw [hs1] at this; exact this),fun k hk hne => ?_⟩,(same mb (Nat.lt_of_lt_of_le hl9 hgw.size) (by omega) (by omega)).trans hr2,fun h9 => (by cases h9),fun _ => ⟨hinv.leave he hm1 (fun v hv => ?_),MStep.done (uh HHI) he (uh HH0) hstp hinv.len,?_⟩⟩
   ·have hne' : k ≠ mb:=fun e9 => hne (by rw [e9])
    exact (same k (Nat.lt_of_lt_of_le hk hgw.size) (by omega) (by omega)).trans ((hg2.block k (Nat.lt_of_lt_of_le hk hgw.size) (fun e9 => hne' (Option.some.inj e9))).trans (hgw.block k hk hne))
   ·obtain ⟨hu9,nm,hnm,hG⟩:=hv
    obtain ⟨y,hy,hyn⟩:=hall nm hnm
    subst hyn
    have h7:=(uh HHOK).giv _ ((uh HHOK).nms _ (List.getElem_mem he) y.1 y.2).1
    rw [hG] at h7
    exact ⟨by omega,hcov y hy v hG⟩
   ·rw [mk_set M' e e 2 hel',if_pos rfl]
  have hK' : ((W.setCell ⟨mb,e,none⟩ (.int .i64 2)).setCell ⟨w.heap.size + 1 + 1,0,none⟩ (.bool false)).heap[D9]? = some (.deferred (some [])):=((KeepsOthers.setCell W ⟨mb,e,none⟩ (.int .i64 2)).trans (KeepsOthers.setCell _ ⟨w.heap.size + 1 + 1,0,none⟩ (.bool false))).same D9 _ hK rfl
  have hc5 : (((W.setCell ⟨mb,e,none⟩ (.int .i64 2)).setCell ⟨w.heap.size + 1 + 1,0,none⟩ (.bool false)).putObj D9 (.deferred none)).cell? ⟨w.heap.size + 1 + 1,0,none⟩ = some (.bool false):=cell_kept ((hb62.set 0 (.bool false)).cell (i:=0) (v:=.bool false) rfl) (grownBy_putObj' _ D9 (.deferred none)) (fun r e9 => by cases e9; exact ⟨_,hK',rfl⟩)
  have HK':=hide hK'
  have HC5:=hide hc5
  clear hgr hrow hinv hstp hcov keep hb6 hel' hel hm1 hg2 hr2 hb62 hK' hc5 hall hK
  gi_wp2
  refine ⟨by simp,.inl ⟨_,_,rfl,run_takeDeferred (uh HK'),?_⟩⟩
  refine ⟨.bool false,?_,uh HPO2⟩
  simp [results,Tryz.f65,go_sem,uh HC5]
 case stop =>
  rintro D9 c pre W hD _ ⟨rfl,⟨M',hrow⟩,hrb,⟨a1,a2,a3,a4,a5⟩,hcyc⟩ hK
  have hl9:=uh HLT
  have hZ:=uh HZL
  have HPO2 : Hid (PO (.returned (.bool true)) (W.putObj D9 (.deferred none))):=by
   have hgp:=grownBy_putObj' W D9 (.deferred none)
   have hgw:=uh HGW
   have hmL:=(uh HLL).row.lt
   rw [uh HPO]
   refine hide ⟨true,M',rfl,⟨hgp.os.trans (a1.trans hgw.os),hgp.tape.trans (a2.trans hgw.tape),hgp.output.trans (a3.trans hgw.output),Nat.le_trans hgw.size (Nat.le_trans a4 hgp.size),fun k hk hne => ?_⟩,(hgp.block mb (Nat.lt_of_lt_of_le hmL a4) (fun e9 => by have:=Option.some.inj e9; omega)).trans hrow,fun _ => hcyc,fun h9 => by cases h9⟩
   have hne' : k ≠ mb:=fun e9 => hne (by rw [e9])
   exact (hgp.block k (Nat.lt_of_lt_of_le hk (Nat.le_trans hgw.size a4)) (fun e9 => by have:=Option.some.inj e9; omega)).trans ((a5 k (Nat.lt_of_lt_of_le hk hgw.size) hne' (by omega)).trans (hgw.block k hk hne))
  have hc5 : (W.putObj D9 (.deferred none)).cell? ⟨w.heap.size + 1 + 1,0,none⟩ = some (.bool true):=cell_kept (hrb.cell (i:=0) (v:=.bool true) rfl) (grownBy_putObj' _ D9 (.deferred none)) (fun r e9 => by cases e9; exact ⟨_,hK,rfl⟩)
  have HK':=hide hK
  have HC5:=hide hc5
  clear hrow hrb a1 a2 a3 a4 a5 hcyc hK hc5
  gi_wp2
  refine ⟨by simp,.inl ⟨_,_,rfl,run_takeDeferred (uh HK'),?_⟩⟩
  refine ⟨.bool true,?_,uh HPO2⟩
  simp [results,Tryz.f65,go_sem,uh HC5]
end Go.Proofs.YtfioeoihociilaaGreat
