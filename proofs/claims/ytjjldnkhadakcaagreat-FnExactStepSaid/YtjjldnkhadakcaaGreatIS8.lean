import Derived.Test.YtjjldnkhadakcaaGreatIS9
import Derived.Test.YtjjldnkhadakcaaGreatST5
namespace Go.Proofs.YtjjldnkhadakcaaGreat
open Go.RowKit
set_option linter.unusedSimpArgs false
set_option linter.unusedVariables false
def CFrom (ks : List DClass) (i : Nat) (C C' : CF) : Prop:=∀ g gc,ks[g]? = some gc → g < i → ∀ st ar,C g st ar = ((runR ks gc C' (treeOf ks gc) (startV gc ar,st)).1.2,((runR ks gc C' (treeOf ks gc) (startV gc ar,st)).1.1.drop gc.ins.length).take gc.outs.length,(runR ks gc C' (treeOf ks gc) (startV gc ar,st)).2)
structure CallD (W Wm : World) (ks : List DClass) (b0 o0 : Nat) (pl : List Nat) (i : Nat) (k : DClass) (C C' : CF) (s : DStm) (x : VS) (q g : Nat) (gc : DClass) (st ar : List Int) (pb2 mb2 off nf n2 rest : Nat) (bv2 : Value) (X2 : BD) (nodes2 : List (TypeId × Nat)) : Prop where
 hg : CallG ks k i s q g gc
 hr : CallR ks k C s x q g gc st ar
 ce : ∃ fa fc,CEnv W Wm ks b0 o0 pl g gc pb2 mb2 fa fc bv2 X2 nodes2
 off_ : off = offF ks k q
 nf_ : nf = (fAt ks g).length
 n2_ : n2 = (varsOf gc).length
 fits : off + nf ≤ (fAt ks i).length
 n0 : 0 < n2
 nr : n2 ≤ rest
 room : rN ks g ≤ n2 + (rest - n2)
 run : C g st ar = ((runR ks gc C' (treeOf ks gc) (startV gc ar,st)).1.2,((runR ks gc C' (treeOf ks gc) (startV gc ar,st)).1.1.drop gc.ins.length).take gc.outs.length,(runR ks gc C' (treeOf ks gc) (startV gc ar,st)).2)
 sub : gc.ins.length + gc.outs.length ≤ n2
 outs1 : gc.ins.length < n2
 args : ar.length ≤ n2
theorem callD_of {W Wm : World} {ks : List DClass} {b0 o0 mc : Nat} {pl : List Nat} (hE : PEnv W Wm ks b0 o0 mc pl) {i : Nat} {k : DClass} (hk : ks[i]? = some k) {C C' : CF} (hC : CFrom ks i C C') {x : VS} (hx : SOK (varsOf k).length (fAt ks i).length x) {rest : Nat} (hroom : rN ks i ≤ (varsOf k).length + rest) {X : BD} (hins : InsIn pl (fTo ks i) k X.ins) {s : DStm} (h3 : s.kind = 3) (hs : stmB ks k s = true) :
  ∃ q g gc st ar pb2 mb2 off nf n2 bv2 X2 nodes2,CallD W Wm ks b0 o0 pl i k C C' s x q g gc st ar pb2 mb2 off nf n2 rest bv2 X2 nodes2 ∧ X.ins.getD s.at_.toNat (0,0) = (pb2,off):=by
 have ht:=stm_tail hs
 unfold stmTail at ht
 rw [if_neg (by omega),if_neg (by omega),if_neg (by omega),if_neg (by omega),if_pos h3] at ht
 obtain ⟨q,g,gc,hg⟩:=call_g ks i k hk hE.hp s ht
 obtain ⟨st,ar,hr⟩:=call_r ks i k hk hE.hp C s h3 q g gc hg x hx
 obtain ⟨pb2,mb2,fa,fc,bv,X2,nodes2,hpl,hce⟩:=call_place hE hk hins hg
 obtain ⟨o1,_,o3⟩:=off_facts ks i k hk hE.hp
 obtain ⟨_,o5⟩:=o3 q g hg.ql hg.gq
 obtain ⟨v0,v1⟩:=vars_pos hE.hp hg.gk
 obtain ⟨r1,r2,r3,r4⟩:=room_facts ks hE.hp i i (Nat.le_refl _) k hk
 have r5:=r4 q g hg.ql hg.gq
 obtain ⟨_,_,r6,_⟩:=room_facts ks hE.hp g g (Nat.le_refl _) gc hg.gk
 have hv:=vars_len gc
 have hd:=(tree_of ks g gc hg.gk hE.hp).2.2.2.2.1
 unfold declB at hd
 rw [Bool.and_eq_true] at hd
 have hd1:=of_decide_eq_true hd.1
 have hal:=hr.arl
 exact ⟨q,g,gc,st,ar,pb2,mb2,_,_,_,bv,X2,nodes2,⟨hg,hr,⟨fa,fc,hce⟩,rfl,rfl,rfl,o5,v0,by omega,by omega,hC g gc hg.gk hg.gi st ar,by omega,by omega,by omega⟩,hpl⟩
set_option maxRecDepth 20000 in
set_option maxHeartbeats 16000000 in
theorem fcall_ok {W Wm : World} {ks : List DClass} {b0 o0 mc : Nat} {pl : List Nat} (hE : PEnv W Wm ks b0 o0 mc pl) (i : Nat) (k : DClass) (hk : ks[i]? = some k) (C C' : CF) (hC : CFrom ks i C C') (hIH : ∀ g gc,ks[g]? = some gc → g < i → CarOK W Wm ks pl g gc C' (treeOf ks gc)) : CallOK W Wm ks pl i k C:=by
 intro w base fb pb mb B L sv vv pv stk so vo rest sa pa x X s nb hD hG hP hx hroom hXk hXm hins hleaf hstm
 obtain ⟨h3,ov,av,hn,hov,hav⟩ : s.kind = 3 ∧ ∃ ov av,BlkAt W nb 179 #[.int .i64 (1 + knOf X.k.insts X.known s),.pointer (some ⟨(X.ins.getD s.at_.toNat (0,0)).1,0,none⟩),.int .i64 (X.ins.getD s.at_.toNat (0,0)).2,ov,av] ∧ SlAt 1 8 RInt 0 W ov (s.outs.map (placeI (varsOf X.k))) ∧ SlAt 1 24 RItems 0 X.Wm av s.args:=by
  rcases hleaf with ⟨_,b,_⟩ | ⟨_,b,_⟩ | ⟨a,_,ov,av,c,d,_,e⟩
  ·exact absurd (show (144 : TypeId) = 135 from b) (by decide)
  ·exact absurd (show (144 : TypeId) = 141 from b) (by decide)
  ·exact ⟨a,ov,av,c,d,e⟩
 obtain ⟨q,g,gc,st,ar,pb2,mb2,off,nf,n2,bv2,X2,nodes2,hcd,hpl⟩:=callD_of hE hk hC hx hroom hins h3 hstm
 rw [hpl] at hn
 simp only at hn
 rw [hXk] at hov
 rw [hXm] at hav
 have hvl:=hx.vl
 have hsl:=hx.sl
 obtain ⟨sn,hsn⟩ : ∃ z,z = (fAt ks i).length:=⟨_,rfl⟩
 obtain ⟨vn,hvn⟩ : ∃ z,z = (varsOf k).length:=⟨_,rfl⟩
 have hpa : pa = some ⟨B,vo + vn,none⟩:=by
  rw [hvn,← hvl]
  exact hG.pa (by have:=hcd.n0; have:=hcd.nr; omega)
 have hpv : pv = .slice (some ⟨B,vo + vn,none⟩) rest rest:=by rw [hG.pv,hpa]
 have hsv : sv = .slice sa sn sn:=by rw [hG.sv,hsl,hsn]
 have hvv : vv = .slice (some ⟨B,vo,none⟩) vn vn:=by rw [hG.vv,hvl,hvn]
 obtain ⟨fa2,fc2,hce⟩:=hcd.ce
 have hc0 : CarIn W w w base fb pb B L L sv vv pv stk stk so vo rest sa pa sn vn x:=CarIn.refl hD hG (hvl.trans hvn.symm) (hsl.trans hsn.symm)
 obtain ⟨sa2,hsa2⟩ : ∃ z,z = if off + nf = off then sa else sa.map (·.add (off * 1)):=⟨_,rfl⟩
 have hs2 : 0 < nf → sa2 = some ⟨B,so + off,none⟩:=fun h0 => by
  have:=hcd.fits
  rw [hsa2,if_neg (by omega),hG.sa (by omega),Option.map_some,Addr.add_lit,Nat.mul_one]
 have hcut : ∀ w',(Instr.slice 55 (.slice sa sn sn) (some (.int .i64 (off : Int))) (some (.int .i64 ((off + nf : Nat) : Int))) (some (.int .i64 ((off + nf : Nat) : Int)))).run Tryz.prog w' = .ok (.slice sa2 nf nf) w':=fun w' => by
  have:=hcd.fits
  rw [cut32_lhm sa sn sn off (off + nf) (off + nf) (by omega) (Nat.le_refl _) (by omega) w',hsa2,show off + nf - off = nf by omega]
 have hadd : IntKind.i64.wrap ((off : Int) + (nf : Int)) = ((off + nf : Nat) : Int):=by
  have:=hcd.fits
  have:=hG.vl
  have:=hG.sl
  have:=hG.ln
  rw [IntKind.wrap_i64]
  omega
 have hstl : st = (x.2.drop off).take nf:=by rw [hcd.hr.hst,hcd.off_,hcd.nf_]
 obtain ⟨ovl,hovl⟩ : ∃ z,z = (s.outs.map (placeI (varsOf k))):=⟨_,rfl⟩
 obtain ⟨oa,oc,hove⟩:=hov.shape
 obtain ⟨aa,ac,have_⟩:=hav.shape
 obtain ⟨on,hon⟩ : ∃ z,z = (s.outs.map (placeI (varsOf k))).length:=⟨_,rfl⟩
 rw [← hon] at hove
 subst hove have_
 have HTW : Hid (∀ w1,Below w.heap.size w w1 → Calls Tryz.prog 62 #[.pointer (some ⟨pb2,0,none⟩),.slice sa2 nf nf,.slice (some ⟨B,vo + vn,none⟩) rest rest] w1 fun e w' => ∃ fb2 pa2,e = .returned (.pointer (some ⟨fb2,0,none⟩)) ∧ Hid (∃ L1 stk1,Two W w w' base fb pb B L L1 sv vv pv stk stk1 so vo rest sa pa sn vn x fb2 pb2 (so + off) n2 (rest - n2) sa2 pa2 (.slice sa2 nf nf) (.slice (some ⟨B,vo + vn,none⟩) n2 n2) (.slice pa2 (rest - n2) (rest - n2)) (.slice none 0 0) (argV n2 ar 0) st)):=fun w1 hb1 => by
  have hD1:=hD.stays hb1
  have h1:=hG.vl
  have h2:=hcd.nr
  have hn2:=hcd.n2_
  have hfit:=hcd.fits
  rw [hvl,← hvn] at h1
  refine (frame_ok W w1 pb2 mb2 n2 (namesF (varsOf gc)) hD1.old hce.c1 (by rw [hn2]; exact hce.map) B (vo + vn) rest L hD1.row hcd.n0 hcd.nr (by omega) hG.ln sa2 nf nf).mono ?_
  rintro e w' ⟨fb2,pa2,rfl,⟨hfb,hblk⟩,hp2,hrow,hbut⟩
  obtain ⟨g1,g2,g3⟩:=geo_inner hG (off:=off) (nf:=nf) (n:=n2) hcd.n0 hcd.nr (by omega) ar hs2 (by rw [hvl,← hvn]; exact hp2)
  rw [hvl,← hvn] at g1 g2 g3
  rw [hsl,← hsn] at g3
  rw [← hstl] at g1
  refine ⟨fb2,pa2,rfl,hide ⟨_,stk,⟨hD1.newRow hbut hrow,g2,g3,((But.of_below hb1).then hbut (fun b hb => Or.inl hb)).mono (fun b hb => Or.inl ?_),Moved.refl _ _,hvl.trans hvn.symm,hsl.trans hsn.symm⟩,hblk,g1,Nat.le_trans hb1.size hfb,hD.fr.lt,?_,by omega⟩⟩
  ·rw [List.mem_singleton] at hb
   subst hb
   exact List.mem_cons_of_mem _ List.mem_cons_self
  ·rw [argV_zero,List.length_replicate]
 have HCEL : Hid (∀ w1,Below W.heap.size W w1 → w1.cell? ⟨nb,1,none⟩ = some (.pointer (some ⟨pb2,0,none⟩)) ∧ w1.cell? ⟨nb,2,none⟩ = some (.int .i64 (off : Int)) ∧ w1.cell? ⟨nb,3,none⟩ = some (.slice oa on oc) ∧ w1.cell? ⟨nb,4,none⟩ = some (.slice aa s.args.length ac) ∧ w1.cell? ⟨pb2,3,none⟩ = some (.slice fa2 nf fc2) ∧ w1.cell? ⟨pb2,4,none⟩ = some bv2):=fun w1 hb1 => by
  have hn1:=hn.below hb1 hn.lt
  refine ⟨hn1.cell (i:=1) rfl,hn1.cell (i:=2) rfl,hn1.cell (i:=3) rfl,hn1.cell (i:=4) rfl,?_,(hb1.cell (World.block_lt_of_cell? W _ hce.c4)).trans hce.c4⟩
  rw [hcd.nf_]
  exact (hb1.cell (World.block_lt_of_cell? W _ hce.c3)).trans hce.c3
 obtain ⟨n1,n2',n3,n4,p3,p4⟩:=uh HCEL w hD.old
 have f1 : w.cell? ⟨fb,1,none⟩ = some (.slice sa sn sn):=by rw [← hsv]; exact hD.fr.cell (i:=1) rfl
 have f3 : w.cell? ⟨fb,3,none⟩ = some (.slice (some ⟨B,vo + vn,none⟩) rest rest):=by rw [← hpv]; exact hD.fr.cell (i:=3) rfl
 obtain ⟨PO,hPO⟩ : ∃ PO : Ending → World → Prop,PO = CarPost W base fb pb B L sv vv pv stk so vo rest sa pa (fAt ks i).length (varsOf k).length (leafR ks k C s x).1 ((leafR ks k C s x).2 - 1) w:=⟨_,rfl⟩
 have HPO:=hide hPO
 rw [← hPO]
 have HCD:=hide hcd
 have HE:=hide hE
 have HK:=hide hk
 have HIH:=hide hIH
 have HP:=hide hP
 have HX:=hide hx
 have HOV:=hide hov
 have HAV:=hide hav
 have HC0:=hide hc0
 have HSTL:=hide hstl
 have HSN:=hide hsn
 have HVN:=hide hvn
 have HON:=hide hon
 have HD:=hide hD
 have HSV:=hide hsv
 have HVV:=hide hvv
 have HPV:=hide hpv
 clear hPO hcd hE hk hIH hP hx hov hav hc0 hstl hsn hvn hon hD hG hpa hpv hsv hvv hce hsa2 hs2 hvl hsl hn hpl hovl hC hroom hXk hXm hins hleaf hstm h3
 have hsum:=hadd
 generalize ((off + nf : Nat) : Int) = ofn at *
 go_enter Tryz.func89,Tryz.ntmps89
 go_wp2_with fail
 go_quiet ((fail))
 go_wp2_with fail
 have HBA:=hide (below_dn w nq)
 obtain ⟨wA,hwA⟩ : ∃ z,z = w.drewN nq:=⟨_,rfl⟩
 rw [← hwA] at HBA ⊢
 have HCE2 : Hid (∀ w1,Dyn W w1 base fb pb B L sv vv pv stk → w1.cell? ⟨nb,1,none⟩ = some (.pointer (some ⟨pb2,0,none⟩)) ∧ w1.cell? ⟨fb,1,none⟩ = some (.slice sa sn sn) ∧ w1.cell? ⟨fb,3,none⟩ = some (.slice (some ⟨B,vo + vn,none⟩) rest rest)):=fun w1 h1 => by
  refine ⟨(uh HCEL w1 h1.old).1,?_,?_⟩
  ·rw [← uh HSV]; exact h1.fr.cell (i:=1) rfl
  ·rw [← uh HPV]; exact h1.fr.cell (i:=3) rfl
 obtain ⟨a1,a2,a3⟩:=uh HCE2 wA ((uh HD).stays (uh HBA))
 have HFR : Hid (Calls Tryz.prog 62 #[.pointer (some ⟨pb2,0,none⟩),.slice sa2 nf nf,.slice (some ⟨B,vo + vn,none⟩) rest rest] wA.drew fun e w' => ∃ fb2 pa2,e = .returned (.pointer (some ⟨fb2,0,none⟩)) ∧ Hid (∃ L1 stk1,Two W w w' base fb pb B L L1 sv vv pv stk stk1 so vo rest sa pa sn vn x fb2 pb2 (so + off) n2 (rest - n2) sa2 pa2 (.slice sa2 nf nf) (.slice (some ⟨B,vo + vn,none⟩) n2 n2) (.slice pa2 (rest - n2) (rest - n2)) (.slice none 0 0) (argV n2 ar 0) st) ∧ w'.cell? ⟨nb,1,none⟩ = some (.pointer (some ⟨pb2,0,none⟩)) ∧ w'.cell? ⟨fb,1,none⟩ = some (.slice sa sn sn) ∧ w'.cell? ⟨fb,3,none⟩ = some (.slice (some ⟨B,vo + vn,none⟩) rest rest)):=by
  refine hide ((uh HTW wA.drew (uh HBA).drew).mono ?_)
  rintro e w' ⟨fb2,pa2,rfl,HT⟩
  obtain ⟨L1,stk1,ht⟩:=uh HT
  refine ⟨fb2,pa2,rfl,HT,(uh HCEL w' ht.car.dyn.old).1,?_,?_⟩
  ·rw [← uh HSV]; exact ht.car.dyn.fr.cell (i:=1) rfl
  ·rw [← uh HPV]; exact ht.car.dyn.fr.cell (i:=3) rfl
 clear hwA HTW HCE2 n1 n2' n3 n4 p3 p4 f1 f3 HBA hadd hsum
 go_region_held3 (fun w' => w'.cell? ⟨nb,1,none⟩ = some (.pointer (some ⟨pb2,0,none⟩)) ∧ w'.cell? ⟨fb,1,none⟩ = some (.slice sa sn sn) ∧ w'.cell? ⟨fb,3,none⟩ = some (.slice (some ⟨B,vo + vn,none⟩) rest rest)) (go_keep) (first | (go_at_call 62; refine (uh HFR).mono ?_; rintro e w1 ⟨fb2,pa2,rfl,HT,a1',a2',a3'⟩))
 have HT0:=HT
 obtain ⟨L1,stk1,ht⟩:=uh HT
 have n4:=(uh HCEL w1 ht.car.dyn.old).2.2.2.1
 have HTS:=hide ht
 clear ht HFR a1 a2 a3 a1' a2' a3' HT hcut
 obtain ⟨r2,hr2⟩ : ∃ z,z = rest - n2:=⟨_,rfl⟩
 rw [← hr2] at HTS HT0
 have HR2:=hide hr2
 clear hr2
 have HARG : Hid (∀ j (hj : j < s.args.length),∃ ab ao xa xc,aa = some ⟨ab,ao,none⟩ ∧ SlAt 3 32 RItem 0 Wm (.slice xa s.args[j].length xc) s.args[j] ∧ ∀ w1,Below Wm.heap.size Wm w1 → w1.cell? ⟨ab,ao + j,none⟩ = some (.slice xa s.args[j].length xc)):=fun j hj => by
  obtain ⟨ab,ao,c9,u,e1,hb,e2,y',e3,e4⟩:=row_at (uh HAV) j hj
  simp only [List.cons.injEq,and_true] at e3
  subst e3
  obtain ⟨xa,xc,rfl⟩:=e4.shape
  simp only [Value.slice.injEq] at e1
  exact ⟨ab,ao,xa,xc,e1.1,e4,fun w1 hb1 => (hb1.cell (p:=⟨ab,_,none⟩) hb).trans e2⟩
 have hal:=(uh HAV).lenI
 go_wp2
 go_loopg [56] s.args.length (fun gm iv wr => ∃ (j : Nat) (L1 : List Int) (stk1 : Value),j ≤ s.args.length ∧ gm = s.args.length - j ∧ iv = .int .i64 j ∧ Two W w wr base fb pb B L L1 sv vv pv stk stk1 so vo rest sa pa sn vn x fb2 pb2 (so + off) n2 r2 sa2 pa2 (.slice sa2 nf nf) (.slice (some ⟨B,vo + vn,none⟩) n2 n2) (.slice pa2 r2 r2) (.slice none 0 0) (argV n2 ar j) st)
 case atStart => exact ⟨0,L1,stk1,Nat.zero_le _,by omega,rfl,uh HTS⟩
 case round =>
  obtain ⟨j,L1,stk1,hj,hg,rfl,ht⟩:=hrel
  rename World => wr
  clear HTS HT0 n4
  have HT:=hide ht
  have HG9:=hide hg
  clear hg
  by_cases hlt : j < s.args.length
  ·obtain ⟨ab,ao,xa,xc,haa,hsl,hcell⟩:=uh HARG j hlt
   subst haa
   have hcd:=uh HCD
   have hE:=uh HE
   have c0:=hcell wr ((hE.old).trans (ht.car.dyn.old.mono hE.old.size))
   have hcar : CarIn W w wr.drew base fb pb B L L1 sv vv pv stk stk1 so vo rest sa pa (fAt ks i).length (varsOf k).length x:=by
    rw [← uh HSN,← uh HVN]
    exact ht.car.below (Below.refl _ _).drew
   obtain ⟨hva,hq32⟩:=car_value (uh HK) hE.hp hE.old (uh HP) hcar (uh HX) s.args[j] _ hsl (hcd.hg.codes _ (List.getElem_mem hlt))
   have harj : ar.getD j 0 = valF (varsOf k) x.1 x.2 s.args[j]:=by
    rw [hcd.hr.har,List.getD_eq_getElem?_getD,List.getElem?_map,List.getElem?_eq_getElem hlt]
    rfl
   rw [← harj] at hva hq32
   have hajl : j < ar.length:=by
    have h9 : ar.length = s.args.length:=by rw [hcd.hr.har,List.length_map]
    omega
   have hjn : j < n2:=by have:=hcd.args; omega
   have HV2 : Hid (∀ w2,(∃ stk2,Two W w w2 base fb pb B L L1 sv vv pv stk stk2 so vo rest sa pa sn vn x fb2 pb2 (so + off) n2 r2 sa2 pa2 (.slice sa2 nf nf) (.slice (some ⟨B,vo + vn,none⟩) n2 n2) (.slice pa2 r2 r2) (.slice none 0 0) (argV n2 ar j) st) → (w2.cell? ⟨B,vo + vn + j,none⟩ = some (.int .i32 (L1.getD (vo + vn + j) 0)) ∧ w2.frozen? ⟨B,vo + vn + j,none⟩ = false) ∧ w2.cell? ⟨fb2,2,none⟩ = some (.slice (some ⟨B,vo + vn,none⟩) n2 n2)):=fun w2 ⟨stk2,h2⟩ => by
    have g1:=h2.geo2.vl
    have g2:=h2.l2
    exact ⟨⟨row_cell h2.car.dyn.row _ (by omega),h2.car.dyn.row.free _⟩,h2.fr2.cell (i:=2) rfl⟩
   have HVA : Hid (Calls Tryz.prog 88 #[.pointer (some ⟨fb,0,none⟩),.slice xa s.args[j].length xc] wr.drew fun e w' => e = .returned (.int .i32 (ar.getD j 0)) ∧ Hid (∃ stk2,Two W w w' base fb pb B L L1 sv vv pv stk stk2 so vo rest sa pa sn vn x fb2 pb2 (so + off) n2 r2 sa2 pa2 (.slice sa2 nf nf) (.slice (some ⟨B,vo + vn,none⟩) n2 n2) (.slice pa2 r2 r2) (.slice none 0 0) (argV n2 ar j) st) ∧ (w'.cell? ⟨B,vo + vn + j,none⟩ = some (.int .i32 (L1.getD (vo + vn + j) 0)) ∧ w'.frozen? ⟨B,vo + vn + j,none⟩ = false) ∧ w'.cell? ⟨fb2,2,none⟩ = some (.slice (some ⟨B,vo + vn,none⟩) n2 n2)):=by
    refine hide (hva.mono ?_)
    rintro e w' ⟨rfl,stk2,hD2,hb2,hm2⟩
    have h2:=(ht.below (w':=wr.drew) (Below.refl _ _).drew).val hD2 hb2 hm2
    exact ⟨rfl,⟨stk2,h2⟩,uh HV2 _ ⟨stk2,h2⟩⟩
   have HFIN : Hid (∀ w1,(∃ stk2,Two W w w1 base fb pb B L L1 sv vv pv stk stk2 so vo rest sa pa sn vn x fb2 pb2 (so + off) n2 r2 sa2 pa2 (.slice sa2 nf nf) (.slice (some ⟨B,vo + vn,none⟩) n2 n2) (.slice pa2 r2 r2) (.slice none 0 0) (argV n2 ar j) st) → ∃ stk2,Two W w (w1.setCell ⟨B,vo + vn + j,none⟩ (.int .i32 (ar.getD j 0))) base fb pb B L (L1.set (vo + vn + j) (ar.getD j 0)) sv vv pv stk stk2 so vo rest sa pa sn vn x fb2 pb2 (so + off) n2 r2 sa2 pa2 (.slice sa2 nf nf) (.slice (some ⟨B,vo + vn,none⟩) n2 n2) (.slice pa2 r2 r2) (.slice none 0 0) (argV n2 ar (j + 1)) st):=fun w1 ⟨stk2,h2⟩ => by
    have h3:=h2.setArg j hjn (ar.getD j 0) hq32
    rw [argV_set n2 ar j hajl hcd.args] at h3
    exact ⟨stk2,h3⟩
   have HF2 : Hid (∀ w1,(∃ stk2,Two W w w1 base fb pb B L L1 sv vv pv stk stk2 so vo rest sa pa sn vn x fb2 pb2 (so + off) n2 r2 sa2 pa2 (.slice sa2 nf nf) (.slice (some ⟨B,vo + vn,none⟩) n2 n2) (.slice pa2 r2 r2) (.slice none 0 0) (argV n2 ar j) st) → (w1.setCell ⟨B,vo + vn + j,none⟩ (.int .i32 (ar.getD j 0))).cell? ⟨fb2,2,none⟩ = some (.slice (some ⟨B,vo + vn,none⟩) n2 n2)):=fun w1 h => by
    obtain ⟨stk2,h3⟩:=uh HFIN w1 h
    exact h3.fr2.cell (i:=2) rfl
   have s2:=(uh HV2 wr ⟨stk1,ht⟩).2
   have hjI : (j : Int) < (s.args.length : Int):=by omega
   have hjn2 : (j : Int) < (n2 : Int):=by omega
   have hnn : n2 ≤ 1000000:=by
    have g1:=ht.geo2.vl
    have g2:=ht.l2
    have g3:=ht.geo2.ln
    omega
   have HLT:=hide hlt
   generalize ar.getD j 0 = val at *
   generalize L1.getD (vo + vn + j) 0 = old at *
   clear hcd hE hcar hva hq32 harj hajl hjn hsl hcell ht HV2 HARG HAV
   generalize s.args[j].length = xn at *
   go_wp2_with fail
   go_region_held3 (fun w' => w'.cell? ⟨fb2,2,none⟩ = some (.slice (some ⟨B,vo + vn,none⟩) n2 n2)) (first | exact uh HF2 _ (uh HB1) | go_keep) (first | (go_at_call 88; refine (uh HVA).mono ?_; rintro e w1 ⟨rfl,HB1,⟨b0',b0z⟩,b1'⟩))
   go_wp2
   obtain ⟨stk2,h2⟩:=uh HFIN _ (uh HB1)
   go_roundg (s.args.length - (j + 1))
   case measure =>
    have h8:=uh HLT
    have h9:=uh HG9
    omega
   case rel => exact ⟨j + 1,_,stk2,uh HLT,rfl,by go_num,h2⟩
  ·have hje : argV n2 ar j = startV gc ar:=by
    have h9 : ar.length = s.args.length:=by rw [(uh HCD).hr.har,List.length_map]
    rw [show j = ar.length by omega,(uh HCD).n2_,argV_all]
   rw [hje] at ht
   clear HT
   have HT:=hide ht
   obtain ⟨xs1,hx1⟩:=ht.car.dyn.stk
   obtain ⟨ka,kc,hse⟩:=hx1.slice
   obtain ⟨kn,hkn⟩ : ∃ z,z = xs1.length:=⟨_,rfl⟩
   rw [← hkn] at hse
   subst hse
   have q4:=ht.car.dyn.fr.cell (i:=4) (v:=.slice ka kn kc) rfl
   have q4b:=ht.fr2.cell (i:=4) (v:=.slice none 0 0) rfl
   have z4b:=ht.fr2.free 4
   obtain ⟨d1,d2,d3⟩:=ht.inner
   obtain ⟨wB,hwB⟩ : ∃ z,z = wr.setCell ⟨fb2,4,none⟩ (.slice ka kn kc):=⟨_,rfl⟩
   rw [← hwB] at d1 d2 d3
   obtain ⟨b1,_,_,_,_,b4⟩:=uh HCEL wB d1.old
   obtain ⟨fa3,fc3,hce⟩:=(uh HCD).ce
   obtain ⟨ba,bc,hbe⟩:=hce.body.shape
   obtain ⟨bn,hbn⟩ : ∃ z,z = nodes2.length:=⟨_,rfl⟩
   rw [← hbn] at hbe
   subst hbe
   obtain ⟨Y,hY⟩ : ∃ z,z = runR ks gc C' (treeOf ks gc) (startV gc ar,st):=⟨_,rfl⟩
   have HYR : Hid (C g st ar = (Y.1.2,(Y.1.1.drop gc.ins.length).take gc.outs.length,Y.2)):=by
    rw [hY]
    exact hide (uh HCD).run
   have HCAR : Hid (∀ w1,Below wB.heap.size wB w1 → Calls Tryz.prog 64 #[.pointer (some ⟨fb2,0,none⟩),.slice ba bn bc] w1 fun e w' => e = .returned (.int .i64 (IntKind.i64.wrap Y.2)) ∧ Hid (∃ L2 stk2,CarIn W wB w' base fb2 pb2 B L1 L2 (.slice sa2 nf nf) (.slice (some ⟨B,vo + vn,none⟩) n2 n2) (.slice pa2 r2 r2) (.slice ka kn kc) stk2 (so + off) (vo + vn) r2 sa2 pa2 nf n2 Y.1)):=fun w1 hb1 => by
    have hcd:=uh HCD
    have hE:=uh HE
    obtain ⟨t1,t2,t3,t4,t5,_⟩:=tree_of ks g gc hcd.hg.gk hE.hp
    have hs0:=start_sok gc (fAt ks g).length ar st hcd.hr.arl hcd.hr.stl hcd.hr.a32 hcd.hr.s32
    have hc0 : CarIn W wB w1 base fb2 pb2 B L1 L1 (.slice sa2 nf nf) (.slice (some ⟨B,vo + vn,none⟩) n2 n2) (.slice pa2 r2 r2) (.slice ka kn kc) (.slice ka kn kc) (so + off) (vo + vn) r2 sa2 pa2 nf n2 (startV gc ar,st):=(CarIn.refl d1 ht.geo2 ht.l2 (hcd.hr.stl.trans hcd.nf_.symm)).below hb1
    have hroom : rN ks g ≤ (varsOf gc).length + r2:=by
     rw [uh HR2,← hcd.n2_]
     exact hcd.room
    refine (uh HIH g gc hcd.hg.gk hcd.hg.gi w1 base fb2 pb2 mb2 B L1 _ _ _ _ (so + off) (vo + vn) r2 sa2 pa2 (startV gc ar,st) X2 nodes2 _ hc0.dyn hc0.geo ⟨hce.c1,hce.map⟩ hs0 hroom hce.Xk hce.Xm hce.ins (by rw [hbn] at *; exact hce.body) hce.nodes t4 t3).mono ?_
    rintro e w' ⟨rfl,L2,stk2,h2⟩
    rw [← hcd.nf_,← hcd.n2_,← hY] at h2
    rw [← hY]
    exact ⟨rfl,L2,stk2,hc0.go h2⟩
   have HWB:=hide hwB
   have HCLS : Hid (∀ w1,Below W.heap.size W w1 → ∃ a1 n1 a2 n2',w1.cell? ⟨pb2,0,none⟩ = some (.pointer (some ⟨b0,o0 + g * 7,none⟩)) ∧ w1.cell? ⟨b0,o0 + g * 7 + 1,none⟩ = some (.slice a1 gc.ins.length n1) ∧ w1.cell? ⟨b0,o0 + g * 7 + 2,none⟩ = some (.slice a2 gc.outs.length n2')):=fun w1 hb1 => by
    obtain ⟨a1,n1,e1⟩:=hce.ci
    obtain ⟨a2,n2',e2⟩:=hce.co
    have cc : ∀ {p : Addr} {v : Value},W.cell? p = some v → w1.cell? p = some v:=fun {p v} h9 => (hb1.cell (World.block_lt_of_cell? W _ h9)).trans h9
    exact ⟨a1,n1,a2,n2',cc hce.c0,cc e1,cc e2⟩
   have hjI : ¬ (j : Int) < (s.args.length : Int):=by omega
   clear hje hx1 hkn d1 d2 d3 hce hbn hY ht HARG HAV hal
   rw [hwB] at b1 b4
   go_wp2_with fail
   rw [← hwB]
   clear hwB b1 b4 q4 q4b z4b
   refine (uh HCAR wB (Below.refl _ _)).mono ?_
   rintro e w3 ⟨rfl,HB3⟩
   obtain ⟨L2,stk2,h2⟩:=uh HB3
   obtain ⟨xs2,hx2⟩:=h2.dyn.stk
   obtain ⟨la,lc,hse⟩:=hx2.slice
   obtain ⟨ln,hln⟩ : ∃ z,z = xs2.length:=⟨_,rfl⟩
   rw [← hln] at hse
   subst hse
   rw [uh HWB] at h2
   obtain ⟨hf3,ht3⟩:=(uh HT).back off nf rfl (by rw [uh HSN]; exact (uh HCD).fits) Y.1 h2
   have q4c:=h2.dyn.fr.cell (i:=4) (v:=.slice la ln lc) rfl
   have q4d:=hf3.cell (i:=4) (v:=.slice ka kn kc) rfl
   have z4d:=hf3.free 4
   obtain ⟨wC,hwC⟩ : ∃ z,z = w3.setCell ⟨fb,4,none⟩ (.slice la ln lc):=⟨_,rfl⟩
   rw [← hwC] at ht3
   have HT3:=hide ht3
   obtain ⟨x1,y1,x2,y2,e0,e1,e2⟩:=uh HCLS wC ht3.car.dyn.old
   have hnn : n2 ≤ 1000000:=by
    have g1:=ht3.geo2.vl
    have g2:=ht3.l2
    have g3:=ht3.geo2.ln
    omega
   have HOUTS:=hide (outs_ok wC fb2 pb2 b0 (o0 + g * 7) B (vo + vn) n2 gc.ins.length gc.outs.length x1 x2 y1 y2 (ht3.fr2.cell (i:=0) rfl) (ht3.fr2.cell (i:=2) rfl) e0 e1 e2 (uh HCD).sub (uh HCD).outs1 hnn)
   clear h2 hx2 hln hf3 ht3 e0 e1 e2 HB3 HCAR HWB HT HCLS
   go_wp2_with fail
   rw [← hwC]
   clear hwC q4c q4d z4d
   refine (uh HOUTS).mono ?_
   rintro e w4 ⟨rfl,hb4⟩
   have HT4:=hide ((uh HT3).below hb4)
   obtain ⟨oc2,hoc2⟩ : ∃ z,z = n2 - gc.ins.length:=⟨_,rfl⟩
   rw [← hoc2]
   clear hb4 HT3 HOUTS hoc2
   obtain ⟨OV,hOV⟩ : ∃ z,z = (C g st ar).2.1:=⟨_,rfl⟩
   obtain ⟨ST,hST⟩ : ∃ z,z = x.2.take off ++ (Y.1.2 ++ x.2.drop (off + nf)):=⟨_,rfl⟩
   have HT5 : Hid (Two W w w4 base fb pb B L L2 sv vv pv stk (.slice la ln lc) so vo rest sa pa sn vn (putN (varsOf k) s.outs OV 0 x.1,ST) fb2 pb2 (so + off) n2 r2 sa2 pa2 (.slice sa2 nf nf) (.slice (some ⟨B,vo + vn,none⟩) n2 n2) (.slice pa2 r2 r2) (.slice la ln lc) Y.1.1 Y.1.2):=by
    rw [hST]
    exact HT4
   have HFINAL : Hid (∀ w5 L5,Two W w w5 base fb pb B L L5 sv vv pv stk (.slice la ln lc) so vo rest sa pa sn vn (putN (varsOf k) s.outs OV s.outs.length x.1,ST) fb2 pb2 (so + off) n2 r2 sa2 pa2 (.slice sa2 nf nf) (.slice (some ⟨B,vo + vn,none⟩) n2 n2) (.slice pa2 r2 r2) (.slice la ln lc) Y.1.1 Y.1.2 → PO (.returned (.int .i64 (IntKind.i64.wrap Y.2))) w5):=fun w5 L5 h5 => by
    have hcd:=uh HCD
    rw [uh HPO,hcd.hr.res,← hcd.off_,← hcd.nf_,← uh HSN,← uh HVN,← hOV]
    have e1 : (C g st ar).1 = Y.1.2:=by rw [uh HYR]
    have e2 : (C g st ar).2.2 = Y.2:=by rw [uh HYR]
    simp only
    rw [e1,e2,← hST,show 1 + Y.2 - 1 = Y.2 by omega]
    exact CarPost.of h5.car rfl
   have HVAL : Hid (∀ u,u < gc.outs.length → Y.1.1.getD (gc.ins.length + u) 0 = OV.getD u 0):=fun u hu => by
    rw [hOV,uh HYR]
    simp only
    rw [List.getD_eq_getElem?_getD,List.getD_eq_getElem?_getD,List.getElem?_take,if_pos hu,List.getElem?_drop]
   have HOL : Hid (s.outs.length = gc.outs.length ∧ on = gc.outs.length ∧ gc.ins.length + gc.outs.length ≤ n2):=by
    have h1:=(uh HCD).hg.outs
    have h2:=(uh HCD).sub
    have h3:=uh HON
    rw [List.length_map] at h3
    exact hide ⟨h1,by omega,h2⟩
   have HOUT : Hid (∀ u (hu : u < s.outs.length),∃ ob oo p : Nat,oa = some ⟨ob,oo,none⟩ ∧ (p < vn ∧ (placeI (varsOf k) (s.outs.getD u ByteArray.empty)).toNat = p) ∧ ∀ w1,Below W.heap.size W w1 → w1.cell? ⟨ob,oo + u,none⟩ = some (.int .i64 (p : Int))):=fun u hu => by
    obtain ⟨ob,oo,c9,z,e1,hb,e2,e3,_⟩:=row_at (uh HOV) u (by rw [List.length_map]; exact hu)
    simp only [List.cons.injEq,and_true] at e3
    subst e3
    simp only [Value.slice.injEq] at e1
    rw [List.getElem_map] at e2
    have h1:=(uh HCD).hg.puts u hu
    have h2:=place_bd (varsOf k) s.outs[u]
    obtain ⟨p,hp⟩:=Int.eq_ofNat_of_zero_le (show 0 ≤ placeI (varsOf k) s.outs[u] by omega)
    rw [hp] at e2
    refine ⟨ob,oo,p,e1.1,⟨by rw [uh HVN]; omega,?_⟩,fun w1 hb1 => (hb1.cell (p:=⟨ob,_,none⟩) hb).trans e2⟩
    rw [List.getD_eq_getElem?_getD,List.getElem?_eq_getElem hu,Option.getD_some,hp,Int.toNat_natCast]
   have HQO : Hid (∀ u,Q32 (OV.getD u 0)):=fun u => getD_32 OV (by
    rw [hOV,uh HYR]
    intro y hy
    exact (uh HT5).geo2.vq y (List.mem_of_mem_drop (List.mem_of_mem_take hy))) u
   have hgo : gc.outs.length ≤ 1000000:=by have:=(uh HOL).2.2; omega
   clear hOV hST HT4
   obtain ⟨no,hno⟩ : ∃ z,z = gc.outs.length:=⟨_,rfl⟩
   obtain ⟨ni,hni⟩ : ∃ z,z = gc.ins.length:=⟨_,rfl⟩
   rw [← hno] at HVAL HOL hgo ⊢
   rw [← hni] at HVAL HOL ⊢
   clear hno hni
   go_wp2
   go_loopg [98] no (fun gm iv wr => ∃ (u : Nat) (L3 : List Int),u ≤ no ∧ gm = no - u ∧ iv = .int .i64 u ∧ Two W w wr base fb pb B L L3 sv vv pv stk (.slice la ln lc) so vo rest sa pa sn vn (putN (varsOf k) s.outs OV u x.1,ST) fb2 pb2 (so + off) n2 r2 sa2 pa2 (.slice sa2 nf nf) (.slice (some ⟨B,vo + vn,none⟩) n2 n2) (.slice pa2 r2 r2) (.slice la ln lc) Y.1.1 Y.1.2)
   case atStart => exact ⟨0,L2,Nat.zero_le _,by omega,rfl,uh HT5⟩
   case round =>
    obtain ⟨u,L3,hu,hg2,rfl,ht⟩:=hrel
    rename World => wu
    clear HT5
    have HT:=hide ht
    have HGU:=hide hg2
    clear hg2
    by_cases hlt : u < no
    ·have hus : u < s.outs.length:=by have:=(uh HOL).1; omega
     obtain ⟨ob,oo,p,hoe,⟨hpv,hpp⟩,hcell⟩:=uh HOUT u hus
     have o1:=hcell wu ht.car.dyn.old
     have n3:=(uh HCEL wu ht.car.dyn.old).2.2.1
     have f2 : wu.cell? ⟨fb,2,none⟩ = some (.slice (some ⟨B,vo,none⟩) vn vn):=by rw [← uh HVV]; exact ht.car.dyn.fr.cell (i:=2) rfl
     have g1:=ht.geo2.vl
     have g2:=ht.l2
     have g3:=(uh HOL).2.2
     have g4:=ht.car.geo.vl
     have g5:=ht.car.vl
     have bv : wu.cell? ⟨B,vo + vn + ni + u,none⟩ = some (.int .i32 (OV.getD u 0)):=by
      rw [row_cell ht.car.dyn.row _ (by omega),Nat.add_assoc,ht.geo2.vs (ni + u) (by omega),uh HVAL u hlt]
     have bo:=row_cell ht.car.dyn.row (vo + p) (by omega)
     have bz:=ht.car.dyn.row.free (vo + p)
     have hs2l : so + off + Y.1.2.length ≤ vo:=by
      have h1:=ht.geo2.sv
      simp only [Value.slice.injEq] at h1
      have h2:=ht.car.geo.sl
      have h3:=ht.car.sl
      have h4:=(uh HCD).fits
      have h5:=uh HSN
      omega
     have HNX : Hid (Two W w (wu.setCell ⟨B,vo + p,none⟩ (.int .i32 (OV.getD u 0))) base fb pb B L (L3.set (vo + p) (OV.getD u 0)) sv vv pv stk (.slice la ln lc) so vo rest sa pa sn vn (putN (varsOf k) s.outs OV (u + 1) x.1,ST) fb2 pb2 (so + off) n2 r2 sa2 pa2 (.slice sa2 nf nf) (.slice (some ⟨B,vo + vn,none⟩) n2 n2) (.slice pa2 r2 r2) (.slice la ln lc) Y.1.1 Y.1.2):=by
      have h1:=ht.setV hs2l p hpv (OV.getD u 0) (uh HQO u)
      simp only at h1
      refine hide ?_
      rw [putN,hpp]
      exact h1
     have huI : (u : Int) < (no : Int):=by omega
     have huo : (u : Int) < (on : Int):=by have:=(uh HOL).2.1; omega
     have hpI : (p : Int) < (vn : Int):=by omega
     have hvm : vn ≤ 1000000:=by have:=ht.car.geo.ln; omega
     have hom : on ≤ 1000000:=by have:=(uh HOL).2.1; omega
     subst hoe
     have HKS : Hid ((wu.setCell ⟨B,vo + p,none⟩ (.int .i32 (OV.getD u 0))).cell? ⟨fb,2,none⟩ = some (.slice (some ⟨B,vo,none⟩) vn vn) ∧ (wu.setCell ⟨B,vo + p,none⟩ (.int .i32 (OV.getD u 0))).cell? ⟨nb,3,none⟩ = some (.slice (some ⟨ob,oo,none⟩) on oc) ∧ (wu.setCell ⟨B,vo + p,none⟩ (.int .i32 (OV.getD u 0))).cell? ⟨ob,oo + u,none⟩ = some (.int .i64 (p : Int))):=by
      have h9:=uh HNX
      refine hide ⟨?_,(uh HCEL _ h9.car.dyn.old).2.2.1,hcell _ h9.car.dyn.old⟩
      rw [← uh HVV]
      exact h9.car.dyn.fr.cell (i:=2) rfl
     clear hcell hpp hs2l ht HT g1 g2 g3 g4 g5 hus hpv HOUT HOV HCEL
     generalize OV.getD u 0 = val at *
     generalize L3.getD (vo + p) 0 = old at *
     have HLT:=hide hlt
     go_wp2_with fail
     go_region_held3 (fun w' => w'.cell? ⟨fb,2,none⟩ = some (.slice (some ⟨B,vo,none⟩) vn vn) ∧ w'.cell? ⟨nb,3,none⟩ = some (.slice (some ⟨ob,oo,none⟩) on oc) ∧ w'.cell? ⟨ob,oo + u,none⟩ = some (.int .i64 (p : Int))) (first | exact uh HKS | go_keep) (fail)
     go_wp2
     go_roundg (no - (u + 1))
     case measure =>
      have h8:=uh HLT
      have h9:=uh HGU
      omega
     case rel => exact ⟨u + 1,_,uh HLT,rfl,by go_num,(uh HNX).below (Below.refl _ _).drew⟩
    ·have hue : u = s.outs.length:=by have:=(uh HOL).1; omega
     rw [hue] at ht
     have HEND:=hide (uh HFINAL wu L3 ht)
     have huI : ¬ (u : Int) < (no : Int):=by omega
     clear ht HT hue HFINAL HOL HOUT HVAL HQO HPO
     go_wp2
     exact uh HEND
theorem carry_all {W Wm : World} {ks : List DClass} {b0 o0 mc : Nat} {pl : List Nat} (hE : PEnv W Wm ks b0 o0 mc pl) : ∀ (n i : Nat) (k : DClass),ks[i]? = some k → i ≤ n → ∀ t : PL,CarOK W Wm ks pl i k (walkR ks n) t:=by
 have one : ∀ (n i : Nat) (k : DClass),ks[i]? = some k → i ≤ n → CallOK W Wm ks pl i k (walkR ks n) → ∀ (m : Nat) (t : PL),t.flat.length < m → CarOK W Wm ks pl i k (walkR ks n) t:=by
  intro n i k hk hi hC m
  induction m with
  | zero => intro t h; omega
  | succ m ih =>
   intro t h
   exact carry_step hE i k hk (walkR ks n) ((walk_wok ks hE.hp n).mono hi) hC t (fun a ha => ih a (by omega))
 intro n
 induction n with
 | zero =>
  intro i k hk hi t
  obtain rfl : i = 0:=by omega
  exact one 0 0 k hk (Nat.le_refl _) (fcall_ok hE 0 k hk (walkR ks 0) (walkR ks 0) (fun g gc _ h => by omega) (fun g gc _ h => by omega)) _ t (Nat.lt_succ_self _)
 | succ n ih =>
  intro i k hk hi t
  refine one (n + 1) i k hk hi (fcall_ok hE i k hk (walkR ks (n + 1)) (walkR ks n) (fun g gc hg hgi st ar => ?_) (fun g gc hg hgi => ih g gc hg (by omega) _)) _ t (Nat.lt_succ_self _)
  simp only [walkR,hg]
end Go.Proofs.YtjjldnkhadakcaaGreat
