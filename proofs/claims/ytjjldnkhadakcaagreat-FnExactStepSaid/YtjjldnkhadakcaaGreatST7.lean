import Derived.Test.YtjjldnkhadakcaaGreatST5
namespace Go.Proofs.YtjjldnkhadakcaaGreat
open Go.RowKit
set_option linter.unusedSimpArgs false
set_option linter.unusedVariables false
theorem le_mil (n : Nat) (h : n ≤ 1000) : n ≤ 1000000:=by omega
theorem fAt_len (ks : List DClass) (h : plansB ks = true) (i : Nat) (k : DClass) (hk : ks[i]? = some k) : (fAt ks i).length ≤ 20000:=(fok_of ks h).len i (List.getElem?_eq_some_iff.1 hk).1
def stmC (s : DStm) (ov cv av : Value) : Array Value:=#[.int .i64 s.kind,.string s.name,.int .i64 s.at_,ov,cv,av]
set_option maxRecDepth 200000 in
set_option maxHeartbeats 60000000 in
theorem runList_ok (ks : List DClass) (n cls : Nat) (k : DClass) (W : World) (mv : Value) (pb rb : Nat) (kc : List Value) (v0 v1 v2 v3 : Value) (ots ens : List (List Int)) (ot en : List Int) (hE : LEnv ks n cls k W mv pb kc v0 v1 v2 v3 ots ens ot en) (vv : Value) (m : Nat) :
  ∀ (t : PL) (i : Nat) (post : List DStm) (x : VS) (cost : Int) (w : World) (sv : Value),t.flat.length ≤ m → TreeAt ks k ot en t i post → SOK (varsOf k).length (fAt ks cls).length x → RunOwn w W.heap.size rb pb cls mv kc vv sv x.1 x.2 cost → Below W.heap.size W w →
  Calls Tryz.prog 87 #[.pointer (some ⟨rb,0,none⟩),.int .i64 (i : Int),.int .i64 ((i + t.flat.length : Nat) : Int)] w (LsPost9 ks n cls k W mv pb rb kc vv t x cost):=by
 induction m using Nat.strongRecOn with
 | ind m ih =>
 intro t i post x cost w sv hm hT hx hR hB
 have HIH:=hide ih
 have HE:=hide hE
 have HX:=hide hx
 have HR:=hide hR
 have HB:=hide hB
 have HM:=hide hm
 have htree:=tree_of ks cls k hE.hk hE.ok
 have hbl : k.body.length ≤ 30000:=htree.2.2.2.2.2
 have hvl:=le_mil _ (declB_len k htree.2.2.2.2.1)
 have hfl : (fAt ks cls).length ≤ 1000000:=by have:=fAt_len ks hE.ok cls k hE.hk; omega
 have hwok:=(walk_wok ks hE.ok n).mono hE.cn
 have HWOK:=hide hwok
 have hil : i + t.flat.length ≤ k.body.length:=by
  have h9:=congrArg List.length hT.at_
  rw [List.length_drop,List.length_append] at h9
  have:=hT.le
  omega
 have HT:=hide hT
 obtain ⟨a1,a2,a3,a4,a5,a6,hkc,hkn,hk1,hk2,hk3,hk4,hk5,hk6⟩:=hE.kc
 clear ih hE hT hx hR hB hm htree hwok
 subst hkc
 obtain ⟨ba,bc,hba⟩:=hk6.shape
 have HBD:=hide hk6
 have HME:=hide hk4
 have HIN:=hide hk5
 have HBA:=hide hba
 have HVL:=hide hvl
 have HFL:=hide hfl
 clear hk1 hk2 hk3 hk4 hk5 hk6 hba hvl hfl
 obtain ⟨to,hto⟩ : ∃ to,to = i + t.flat.length:=⟨_,rfl⟩
 rw [← hto]
 rw [← hto] at hil
 have HTO:=hide hto
 clear hto
 go_enter Tryz.func87,Tryz.ntmps87
 go_wp2
 go_loopg [1] t.flat.length (fun g iv wr => ∃ (j : Nat) (t' : PL) (x' : VS) (c' : Int) (sv' : Value),iv = .int .i64 j ∧ g = t'.flat.length ∧ j + t'.flat.length = to ∧ t'.flat.length ≤ t.flat.length ∧ TreeAt ks k ot en t' j post ∧ SOK (varsOf k).length (fAt ks cls).length x' ∧ RunOwn wr W.heap.size rb pb cls mv [.string k.name,a1,a2,a3,a4,a5,a6] vv sv' x'.1 x'.2 c' ∧ Below W.heap.size W wr ∧ (runR ks k (walkR ks n) t' x').1 = (runR ks k (walkR ks n) t x).1 ∧ c' + (runR ks k (walkR ks n) t' x').2 = cost + (runR ks k (walkR ks n) t x).2)
 case atStart => exact ⟨i,t,x,cost,sv,rfl,rfl,(uh HTO).symm,Nat.le_refl _,uh HT,uh HX,uh HR,uh HB,rfl,rfl⟩
 case round =>
  clear HT HX HR HB
  obtain ⟨j,t',x',c',sv',rfl,hg,hjt,htt,hT,hx,hR,hB,hr1,hr2⟩:=hrel
  rename World => wr
  have HT:=hide hT
  have HX:=hide hx
  have HR:=hide hR
  have HB:=hide hB
  have HG:=hide hg
  have HR1:=hide hr1
  have HR2:=hide hr2
  have HTT:=hide htt
  have HJT:=hide hjt
  clear hg htt hT hx hR hB hr1 hr2
  cases t' using PL.inv with
  | nil =>
   have e0 : ¬ (j : Int) < (to : Int):=by simp only [PL.flat,List.length_nil] at hjt; omega
   have HPO : Hid (LsPost9 ks n cls k W mv pb rb [.string k.name,a1,a2,a3,a4,a5,a6] vv t x cost (.returned (.tuple #[])) wr):=by
    refine hide ⟨rfl,⟨sv',?_⟩,uh HB⟩
    have h1 : x' = (runR ks k (walkR ks n) t x).1:=uh HR1
    have h2 : c' + 0 = cost + (runR ks k (walkR ks n) t x).2:=uh HR2
    rw [← h1,← h2,Int.add_zero]
    exact uh HR
   clear hjt
   go_wp2
   go_end0
   exact uh HPO
  | leaf s r =>
   have hjI : (j : Int) < (to : Int):=by simp only [PL.flat,List.length_cons] at hjt; omega
   obtain ⟨⟨hj,hbj⟩,hsb,hk456,hTr⟩:=(uh HT).leaf
   obtain ⟨sb,so,ov,cv,av,⟨bn,bc',hb'⟩,hSA⟩:=body_at (uh HBD) j hj
   rw [hbj] at hSA
   have hbb:=uh HBA
   rw [hb'] at hbb
   simp only [Value.slice.injEq] at hbb
   obtain ⟨rfl,hbn,rfl⟩:=hbb
   subst hbn
   subst hb'
   obtain ⟨oa,oc,hov⟩:=hSA.outs.shape
   obtain ⟨ca,cc,hcv⟩:=hSA.code.shape
   obtain ⟨aa,ac,hav⟩:=hSA.args.shape
   subst hov hcv hav
   have hSAr:=hSA.stays rfl (uh HB)
   have HSAr:=hide hSAr
   obtain ⟨xlt,s0,s1,s2,s3,s4,s5,hsn,hskd,hsat,xo1,xo2,xo3⟩:=hSAr
   obtain ⟨xr1,⟨xr2,xr3,r9⟩,⟨xr4,xr5,r12⟩,xr6,z12⟩:=(uh HR).cells
   clear xlt xo1 xo2 xo3 xr1 xr2 xr3 xr4 xr5 xr6
   have hA : Below wr.heap.size wr (wr.alloc (.cells (stmC s (.slice oa s.outs.length oc) (.slice ca s.code.length cc) (.slice aa s.args.length ac)) 84)):=(Below.refl _ _).alloc (Nat.le_refl _) _
   obtain ⟨hR0,hbt0⟩:=((uh HR).later hA).tick 1
   have r12':=(hA.cell (p:=⟨rb,12,none⟩) (uh HR).blk.lt).trans r12
   have z12':=((uh HR).later hA).cells.2.2.2.2
   have hB0 : Below W.heap.size W ((wr.alloc (.cells (stmC s (.slice oa s.outs.length oc) (.slice ca s.code.length cc) (.slice aa s.args.length ac)) 84)).setCell ⟨rb,12,none⟩ (.int .i64 (IntKind.i64.wrap (c' + 1)))):=((uh HB).trans (hA.mono (uh HB).size)).trans (hbt0.below _ ((uh HB).trans (hA.mono (uh HB).size)).size (fun q hq => by rw [List.mem_singleton] at hq; subst hq; exact (uh HR).rbase))
   have HBX : Hid (BlkAt ((wr.alloc (.cells (stmC s (.slice oa s.outs.length oc) (.slice ca s.code.length cc) (.slice aa s.args.length ac)) 84)).setCell ⟨rb,12,none⟩ (.int .i64 (IntKind.i64.wrap (c' + 1)))) wr.heap.size 84 (stmC s (.slice oa s.outs.length oc) (.slice ca s.code.length cc) (.slice aa s.args.length ac))):=by
    refine hide (hbt0.blk (blk_box wr _ _) (fun e => ?_))
    rw [List.mem_singleton] at e
    have:=(uh HR).blk.lt
    omega
   have HS0:=hide ((uh HSAr).outs.stays RStr_kept hA)
   have HSA:=hide hSA
   have HR0:=hide hR0
   have HB0:=hide hB0
   have HTR:=hide hTr
   have HSB:=hide hsb
   have hwr:=wrap_add c' 1
   have hbr : wr.heap.size ≠ rb:=by have:=(uh HR).blk.lt; omega
   obtain ⟨w0,hw0⟩ : ∃ w0,w0 = (wr.alloc (.cells (stmC s (.slice oa s.outs.length oc) (.slice ca s.code.length cc) (.slice aa s.args.length ac)) 84)).setCell ⟨rb,12,none⟩ (.int .i64 (IntKind.i64.wrap (c' + 1))):=⟨_,rfl⟩
   rw [← hw0] at HBX HR0 HB0
   have HWS : Hid (w0.heap.size = wr.heap.size + 1):=by
    refine hide ?_
    rw [hw0]
    simp [World.setCell]
   clear hSA hA hR0 hbt0 hB0 hTr hsb HSAr HS0 hbj
   generalize IntKind.i64.wrap c' = cw at r12 r12' hwr
   generalize IntKind.i64.wrap (c' + 1) = cw1 at hwr hw0
   have HEXP : Hid (∀ code ca cc,mcB k code = true → SlAt 3 32 RItem 0 W (.slice ca code.length cc) code → ∀ w1,Below w0.heap.size w0 w1 → Calls Tryz.prog 109 #[.pointer (some ⟨rb,0,none⟩),.slice ca code.length cc,.int .i64 (code.length : Int)] w1 (Ans (.int .i64 (valF (varsOf k) x'.1 x'.2 code)) w1)):=fun code ca cc hmc hsl w1 hb1 => by
    have hE:=uh HE
    have hX:=uh HX
    obtain ⟨f1,_,f3⟩:=val_of hX (off_facts ks cls k hE.hk hE.ok).1 code hmc
    exact runExp_ok code _ w0 rb pb cls mv _ (varsOf k) x'.1 x'.2 _ ((uh HR0).at (hE.pl.stays (uh HB0)) hE.hk ⟨by rw [hX.vl]; exact uh HVL,hX.v32⟩ ⟨by rw [hX.sl]; exact uh HFL,hX.s32⟩) (hsl.stays RItem_kept (uh HB0)) f3 hX.v32 hX.s32 (mc_parts k code hmc).1 code.length 0 _ f1 (Nat.le_refl _) w1 hb1
   have HNX:=hide (leaf_sok ks cls k (uh HE).hk (uh HE).ok (walkR ks n) (uh HWOK) s (uh HSB) hk456 x' (uh HX))
   have HRR : Hid ((runR ks k (walkR ks n) r (leafR ks k (walkR ks n) s x').1).1 = (runR ks k (walkR ks n) t x).1 ∧ c' + (leafR ks k (walkR ks n) s x').2 + (runR ks k (walkR ks n) r (leafR ks k (walkR ks n) s x').1).2 = cost + (runR ks k (walkR ks n) t x).2):=by
    have h1:=uh HR1
    have h2:=uh HR2
    simp only [runR] at h1 h2
    exact hide ⟨h1,by omega⟩
   have hjt2 : j + 1 + r.flat.length = to:=by simp only [PL.flat,List.length_cons] at hjt; omega
   have htt2 : r.flat.length ≤ t.flat.length:=by have:=uh HTT; simp only [PL.flat,List.length_cons] at this; omega
   have hgk : gk = r.flat.length + 1:=by have:=uh HG; simpa [PL.flat] using this
   have HJ2:=hide hjt2
   have HT2:=hide htt2
   have HG2:=hide hgk
   have hj3 : (j : Int) < 30000:=by omega
   have hjB : (j : Int) < (k.body.length : Int):=by omega
   clear hjt hjt2 htt2 hgk HT HR1 HR2 HTT HG HJT HIH HR HB hil hj
   have ht:=uh HSB
   rw [stm_un,Bool.and_eq_true] at ht
   replace ht:=ht.2
   unfold stmTail at ht
   by_cases h1 : s.kind = 1
   ·as_aux_lemma =>
     rw [if_pos h1,Bool.and_eq_true] at ht
     obtain ⟨hset,hmc⟩:=ht
     unfold setB at hset
     have hp0:=of_decide_eq_true hset
     obtain ⟨p,hp⟩:=Int.eq_ofNat_of_zero_le (show 0 ≤ placeI (varsOf k) s.name by omega)
     have hpb:=place_bd (varsOf k) s.name
     have hpv : p < x'.1.length:=by rw [(uh HX).vl]; omega
     have hlr : leafR ks k (walkR ks n) s x' = ((x'.1.set p (valF (varsOf k) x'.1 x'.2 s.code),x'.2),1):=by
      unfold leafR
      rw [if_pos h1,hp,Int.toNat_natCast]
     have hE2:=hide (uh HEXP s.code ca cc hmc (uh HSA).code)
     have HCA : Hid (Calls Tryz.prog 109 #[.pointer (some ⟨rb,0,none⟩),.slice ca s.code.length cc,.int .i64 (s.code.length : Int)] w0.drew fun e w' => e = .returned (.int .i64 (valF (varsOf k) x'.1 x'.2 s.code)) ∧ Hid (Below w0.heap.size w0 w') ∧ w'.cell? ⟨wr.heap.size,1,none⟩ = some (.string s.name) ∧ w'.cell? ⟨wr.heap.size,4,none⟩ = some (.slice ca s.code.length cc)):=by
      refine hide ((uh hE2 w0.drew (Below.refl _ _).drew).mono ?_)
      rintro e w' ⟨rfl,hb⟩
      have hb' : Below w0.heap.size w0 w':=below_drew_l hb
      have hbk:=(uh HBX).below hb' (uh HBX).lt
      exact ⟨rfl,hb',hbk.cell (i:=1) rfl,hbk.cell (i:=4) rfl⟩
     have HCB : Hid (∀ v w1,Below w0.heap.size w0 w1 → Calls Tryz.prog 108 #[.pointer (some ⟨rb,0,none⟩),.string s.name,.int .i64 v] w1 fun e w' => e = .returned (.tuple #[]) ∧ Hid (RunOwn w' W.heap.size rb pb cls mv [.string k.name,a1,a2,a3,a4,a5,.slice (some ⟨sb,so,none⟩) k.body.length bc'] vv sv' (x'.1.set p v) x'.2 (c' + 1) ∧ Below W.heap.size W w') ∧ w'.cell? ⟨wr.heap.size,1,none⟩ = some (.string s.name) ∧ w'.cell? ⟨wr.heap.size,4,none⟩ = some (.slice ca s.code.length cc)):=fun v w1 hb1 => by
      have hBW:=(uh HB0).trans (hb1.mono (uh HB0).size)
      refine (runPut_ok W w1 hBW rb pb cls mv _ vv sv' x'.1 x'.2 _ ((uh HR0).later hb1) ks v0 v1 v2 v3 ots ens (uh HE).pl k (uh HE).hk s.name p hp hpv v (by rw [(uh HX).vl]; exact uh HVL)).mono ?_
      rintro e w' ⟨rfl,h1,h2⟩
      have hbk:=h2.blk ((uh HBX).below hb1 (uh HBX).lt) (fun e => OwnV.notBlk' ((uh HR0).hv.below hb1) ((uh HBX).below hb1 (uh HBX).lt) (by decide) (mem_blkL.1 e))
      exact ⟨rfl,⟨h1,hBW.trans (h2.below _ hBW.size (fun q hq => (uh HR0).hv.block q (mem_blkL.1 hq)))⟩,hbk.cell (i:=1) rfl,hbk.cell (i:=4) rfl⟩
     generalize valF (varsOf k) x'.1 x'.2 s.code = val at *
     rw [hlr] at HNX HRR
     have b1:=(uh HBX).cell (i:=1) (v:=.string s.name) rfl
     have b4:=(uh HBX).cell (i:=4) (v:=.slice ca s.code.length cc) rfl
     have HW0:=hide hw0
     clear hset hmc hp0 hpb hlr HEXP hE2 hp hpv HSA HSB hk456 hsat hskd hsn HIN HME HVL HFL HWOK HE HBD HBA HX
     obtain ⟨kd,nm,atv,outs,code,args⟩:=s
     simp only at *
     subst h1
     unfold stmC at hw0 r12' z12'
     simp only at hw0 r12' z12'
     go_wp2_with fail
     rw [← hw0]
     clear hw0 s0 s1 s2 s3 s4 s5 r9 r12 z12 r12' z12'
     go_region_held3 (fun w' => w'.cell? ⟨wr.heap.size,1,none⟩ = some (.string nm) ∧ w'.cell? ⟨wr.heap.size,4,none⟩ = some (.slice ca code.length cc)) (go_keep) (first | (go_at_call 109; refine (uh HCA).mono ?_; rintro e w1 ⟨rfl,HB1,b1',b4'⟩) | (go_at_call 108; refine (uh HCB _ _ (uh HB1)).mono ?_; rintro e w2 ⟨rfl,HB2,b1'',b4''⟩))
     go_wp2
     go_roundg r.flat.length
     case measure => have:=uh HG2; omega
     case rel => exact ⟨j + 1,r,_,c' + 1,sv',by go_num,rfl,uh HJ2,uh HT2,uh HTR,uh HNX,(uh HB2).1,(uh HB2).2,(uh HRR).1,(uh HRR).2⟩
   rw [if_neg h1] at ht
   by_cases h2 : s.kind = 2
   ·as_aux_lemma =>
     rw [if_pos h2,Bool.and_eq_true] at ht
     obtain ⟨hat,hmc⟩:=ht
     have hat:=of_decide_eq_true hat
     obtain ⟨p,hp⟩:=Int.eq_ofNat_of_zero_le hat.1
     have hpv : p < x'.2.length:=by
      rw [(uh HX).sl]
      have:=(off_facts ks cls k (uh HE).hk (uh HE).ok).1
      omega
     have hlr : leafR ks k (walkR ks n) s x' = ((x'.1,x'.2.set p (valF (varsOf k) x'.1 x'.2 s.code)),1):=by
      unfold leafR
      rw [if_neg h1,if_pos h2,hp,Int.toNat_natCast]
     obtain ⟨g,c9,hsv⟩:=own_nonempty (uh HR0).hs p hpv
     subst hsv
     have hE2:=hide (uh HEXP s.code ca cc hmc (uh HSA).code)
     have HCA : Hid (Calls Tryz.prog 109 #[.pointer (some ⟨rb,0,none⟩),.slice ca s.code.length cc,.int .i64 (s.code.length : Int)] w0.drew fun e w' => e = .returned (.int .i64 (valF (varsOf k) x'.1 x'.2 s.code)) ∧ Hid (Below w0.heap.size w0 w') ∧ (w'.cell? ⟨g,p,none⟩ = some (.int .i64 (x'.2.getD p 0)) ∧ w'.frozen? ⟨g,p,none⟩ = false) ∧ w'.cell? ⟨rb,11,none⟩ = some (.slice (some ⟨g,0,none⟩) x'.2.length c9) ∧ w'.cell? ⟨wr.heap.size,2,none⟩ = some (.int .i64 s.at_) ∧ w'.cell? ⟨wr.heap.size,4,none⟩ = some (.slice ca s.code.length cc)):=by
      refine hide ((uh hE2 w0.drew (Below.refl _ _).drew).mono ?_)
      rintro e w' ⟨rfl,hb⟩
      have hb' : Below w0.heap.size w0 w':=below_drew_l hb
      have hbk:=(uh HBX).below hb' (uh HBX).lt
      have hR':=(uh HR0).later hb'
      exact ⟨rfl,hb',⟨hR'.hs.cellI rfl p hpv,World.ownsRow.frozenAt (n:=x'.2.length) (cap:=c9) hR'.hs p⟩,hR'.cells.2.2.1.2.1,hbk.cell (i:=2) rfl,hbk.cell (i:=4) rfl⟩
     have HFIN : Hid (∀ v w1,Below w0.heap.size w0 w1 → RunOwn (w1.setCell ⟨g,p,none⟩ (.int .i64 v)) W.heap.size rb pb cls mv [.string k.name,a1,a2,a3,a4,a5,.slice (some ⟨sb,so,none⟩) k.body.length bc'] vv (.slice (some ⟨g,0,none⟩) x'.2.length c9) x'.1 (x'.2.set p v) (c' + 1) ∧ Below W.heap.size W (w1.setCell ⟨g,p,none⟩ (.int .i64 v)) ∧ (w1.setCell ⟨g,p,none⟩ (.int .i64 v)).cell? ⟨rb,11,none⟩ = some (.slice (some ⟨g,0,none⟩) x'.2.length c9) ∧ (w1.setCell ⟨g,p,none⟩ (.int .i64 v)).cell? ⟨wr.heap.size,2,none⟩ = some (.int .i64 s.at_) ∧ (w1.setCell ⟨g,p,none⟩ (.int .i64 v)).cell? ⟨wr.heap.size,4,none⟩ = some (.slice ca s.code.length cc)):=fun v w1 hb1 => by
      have hR':=(uh HR0).later hb1
      have hBW:=(uh HB0).trans (hb1.mono (uh HB0).size)
      obtain ⟨s1,s2⟩:=hR'.hs.setI p v
      rw [List.length_set] at s1
      have hbk:=(uh HBX).below hb1 (uh HBX).lt
      have n1:=OwnV.notBlk' hR'.hs hR'.blk (by decide)
      have n2:=OwnV.notBlk' hR'.hs hbk (by decide)
      have hK : ∀ b T cs,BlkAt w1 b T cs → (Value.slice (some ⟨g,0,none⟩) x'.2.length c9).ownBlock ≠ some b → BlkAt (w1.setCell ⟨g,p,none⟩ (.int .i64 v)) b T cs:=fun b T cs h9 h8 => (grown_keep s2 h9.lt (fun e => h8 (by rw [← e]; rfl))).trans h9
      have hR2 : RunOwn (w1.setCell ⟨g,p,none⟩ (.int .i64 v)) W.heap.size rb pb cls mv [.string k.name,a1,a2,a3,a4,a5,.slice (some ⟨sb,so,none⟩) k.body.length bc'] vv (.slice (some ⟨g,0,none⟩) x'.2.length c9) x'.1 (x'.2.set p v) (c' + 1):=⟨hK _ _ _ hR'.blk n1,hR'.hv.ofBlock (fun b hb2 => grown_keep s2 (World.ownsRow.lt hR'.hv b hb2).2 (fun e => by cases e; exact hR'.ne g hb2 rfl)),s1,hR'.ne,rfl,hR'.rbase⟩
      have hbk2:=hK _ _ _ hbk n2
      exact ⟨hR2,hBW.trans (below_grown s2 hBW.size (hR'.hs.block g rfl)),hR2.cells.2.2.1.2.1,hbk2.cell (i:=2) rfl,hbk2.cell (i:=4) rfl⟩
     have hpI : (p : Int) < (x'.2.length : Int):=by omega
     have hsn9 : x'.2.length ≤ 1000000:=by rw [(uh HX).sl]; exact uh HFL
     generalize valF (varsOf k) x'.1 x'.2 s.code = val at *
     rw [hlr] at HNX HRR
     have b2:=(uh HBX).cell (i:=2) (v:=.int .i64 s.at_) rfl
     have b4:=(uh HBX).cell (i:=4) (v:=.slice ca s.code.length cc) rfl
     have q11:=(uh HR0).cells.2.2.1.2.1
     clear hat hmc hlr HEXP hE2 hpv HSA HSB hk456 hsat hskd hsn HIN HME HVL HFL HWOK HE HBD HBA HX HR0
     obtain ⟨kd,nm,atv,outs,code,args⟩:=s
     simp only at *
     subst h2
     subst hp
     unfold stmC at hw0 r12' z12'
     simp only at hw0 r12' z12'
     go_wp2_with fail
     rw [← hw0]
     clear hw0 s0 s1 s2 s3 s4 s5 r9 r12 z12 r12' z12' h1
     go_region_held3 (fun w' => w'.cell? ⟨rb,11,none⟩ = some (.slice (some ⟨g,0,none⟩) x'.2.length c9) ∧ w'.cell? ⟨wr.heap.size,2,none⟩ = some (.int .i64 (p : Int)) ∧ w'.cell? ⟨wr.heap.size,4,none⟩ = some (.slice ca code.length cc)) (first | exact ((uh HFIN) _ _ (uh HB1)).2.2 | go_keep) (first | (go_at_call 109; refine (uh HCA).mono ?_; rintro e w1 ⟨rfl,HB1,⟨b1',b1z⟩,b0',b2',b4'⟩))
     go_wp2
     go_roundg r.flat.length
     case measure => have:=uh HG2; omega
     case rel => exact ⟨j + 1,r,_,c' + 1,_,by go_num,rfl,uh HJ2,uh HT2,uh HTR,uh HNX,((uh HFIN) _ _ (uh HB1)).1,((uh HFIN) _ _ (uh HB1)).2.1,(uh HRR).1,(uh HRR).2⟩
   as_aux_lemma =>
    rw [if_neg h2,if_neg hk456.1,if_neg (by omega)] at ht
    by_cases h3 : s.kind = 3
    case neg =>
     rw [if_neg h3] at ht
     cases ht
    rw [if_pos h3] at ht
    obtain ⟨q,g,gc,hCG⟩:=call_g ks cls k (uh HE).hk (uh HE).ok s ht
    obtain ⟨st,ar,hCR⟩:=call_r ks cls k (uh HE).hk (uh HE).ok (walkR ks n) s h3 q g gc hCG x' (uh HX)
    have HCG:=hide hCG
    have HCR:=hide hCR
    have HAL : Hid (∀ u (hu : u < s.args.length),mcB k s.args[u] = true):=fun u hu => hCG.codes _ (List.getElem_mem hu)
    have HARX : Hid (∀ u (hu : u < s.args.length),∃ ab ao xa xc,aa = some ⟨ab,ao,none⟩ ∧ SlAt 3 32 RItem 0 W (.slice xa s.args[u].length xc) s.args[u] ∧ ∀ w1,Below W.heap.size W w1 → w1.cell? ⟨ab,ao + u,none⟩ = some (.slice xa s.args[u].length xc)):=fun u hu => by
     obtain ⟨ab,ao,c9,y,e1,hb,e2,y',e3,e4⟩:=row_at (uh HSA).args u hu
     simp only [List.cons.injEq,and_true] at e3
     subst e3
     obtain ⟨xa,xc,rfl⟩:=e4.shape
     simp only [Value.slice.injEq] at e1
     exact ⟨ab,ao,xa,xc,e1.1,e4,fun w1 hb1 => (hb1.cell (p:=⟨ab,_,none⟩) hb).trans e2⟩
    obtain ⟨ma,mc9,hme⟩:=(uh HME).shape
    subst hme
    obtain ⟨ia,ic,hie⟩:=(uh HIN).shape
    subst hie
    obtain ⟨xa3,xc3,hv3⟩:=(uh HE).pl.cells.shape
    rw [List.length_map,List.length_range] at hv3
    subst hv3
    have HINX : Hid (∀ u (hu : u < k.insts.length),∃ ib io,ia = some ⟨ib,io,none⟩ ∧ ∀ w1,Below W.heap.size W w1 → w1.cell? ⟨ib,io + u,none⟩ = some (.int .i64 k.insts[u])):=fun u hu => by
     obtain ⟨ib,io,c9,y,e1,hb,e2,e3,_⟩:=row_at (uh HIN) u hu
     simp only [List.cons.injEq,and_true] at e3
     subst e3
     simp only [Value.slice.injEq] at e1
     exact ⟨ib,io,e1.1,fun w1 hb1 => (hb1.cell (p:=⟨ib,_,none⟩) hb).trans e2⟩
    have HCEX : Hid (∀ u,u < ks.length → ∃ xb xo,xa3 = some ⟨xb,xo,none⟩ ∧ ∀ w1,Below W.heap.size W w1 → w1.cell? ⟨xb,xo + u,none⟩ = some (.int .i64 ((fAt ks u).length : Int))):=fun u hu => by
     obtain ⟨xb,xo,c9,y,e1,hb,e2,e3,_⟩:=row_at (uh HE).pl.cells u (by simpa using hu)
     simp only [List.cons.injEq,and_true,List.getElem_map,List.getElem_range] at e3
     subst e3
     simp only [Value.slice.injEq] at e1
     exact ⟨xb,xo,e1.1,fun w1 hb1 => (hb1.cell (p:=⟨xb,_,none⟩) hb).trans e2⟩
    have HPC3 : Hid (∀ w1,Below W.heap.size W w1 → w1.cell? ⟨pb,3,none⟩ = some (.slice xa3 ks.length xc3)):=fun w1 hb1 => (hb1.cell (p:=⟨pb,3,none⟩) (uh HE).pl.lt).trans (uh HE).pl.c3
    have hmn:=(uh HME).lenI
    have hinn:=(uh HIN).lenI
    have hksn : ks.length ≤ 200:=by
     have h9:=(uh HE).ok
     unfold plansB at h9
     rw [Bool.and_eq_true] at h9
     exact of_decide_eq_true h9.1
    have b3:=(uh HBX).cell (i:=3) (v:=.slice oa s.outs.length oc) rfl
    have b5:=(uh HBX).cell (i:=5) (v:=.slice aa s.args.length ac) rfl
    have b2:=(uh HBX).cell (i:=2) (v:=.int .i64 s.at_) rfl
    have hat:=hCG.at_
    have hal : s.args.length ≤ 1000:=by
     have h9:=declB_len gc (tree_of ks g gc hCG.gk (uh HE).ok).2.2.2.2.1
     rw [vars_len] at h9
     have:=hCG.args
     omega
    clear ht hCG hCR hk456 hsat hskd hsn
    obtain ⟨kd,nm,atv,outs,code,args⟩:=s
    simp only at *
    subst h3
    subst hat
    unfold stmC at hw0 r12' z12'
    simp only at hw0 r12' z12'
    go_wp2
    rw [← hw0]
    clear hw0 s0 s1 s2 s3 s4 s5 r9 r12 z12 r12' z12' h1 h2
    have hws : w0.heap.size = wr.heap.size + 1:=uh HWS
    have HALL : Hid (Below w0.heap.size w0 (w0.alloc (.cells #[] 3))):=(Below.refl _ _).alloc (Nat.le_refl _) _
    have HST : Hid (OwnV elInt (w0.alloc (.cells #[] 3)) w0.heap.size (.slice (some ⟨wr.heap.size + 1,0,none⟩) 0 0) []):=by
     refine hide ?_
     rw [← hws]
     exact OwnV.start (E:=elInt) w0 w0.heap.size (Nat.le_refl _)
    clear hws
    go_loopg [9,127] args.length (fun gm agv iv w1 => ∃ (u g1 c1 : Nat),u ≤ args.length ∧ gm = args.length - u ∧ iv = .int .i64 u ∧ agv = .slice (some ⟨g1,0,none⟩) u c1 ∧ OwnV elInt w1 w0.heap.size (.slice (some ⟨g1,0,none⟩) u c1) ((args.take u).map (valF (varsOf k) x'.1 x'.2)) ∧ Below w0.heap.size w0 w1)
    case atStart => exact ⟨0,wr.heap.size + 1,0,Nat.zero_le _,by omega,rfl,rfl,uh HST,uh HALL⟩
    case round =>
     clear HST HALL
     obtain ⟨u,g1,c1,hu,hgu,rfl,rfl,hoA,hbA⟩:=hrel
     rename World => w1
     have HOA:=hide hoA
     have HBA2:=hide hbA
     have HGU:=hide hgu
     have HBW1:=hide ((uh HB0).trans (hbA.mono (uh HB0).size))
     clear hgu hoA
     by_cases hul : u < args.length
     ·obtain ⟨ab,ao,xa,xc,rfl,hsl,hcell⟩:=uh HARX u hul
      have e0:=hcell w1 (uh HBW1)
      have HEX:=hide (uh HEXP args[u] xa xc (uh HAL u hul) hsl w1 hbA)
      have HTK : Hid ((args.take (u + 1)).map (valF (varsOf k) x'.1 x'.2) = (args.take u).map (valF (varsOf k) x'.1 x'.2) ++ [valF (varsOf k) x'.1 x'.2 args[u]]):=by
       refine hide ?_
       rw [List.take_succ_eq_append_getElem hul,List.map_append]
       rfl
      have hlt9 : ((args.take u).map (valF (varsOf k) x'.1 x'.2)).length = u:=by rw [List.length_map,List.length_take]; omega
      have huI : (u : Int) < (args.length : Int):=by omega
      have hw0s:=hbA.size
      clear hcell hsl hbA
      generalize valF (varsOf k) x'.1 x'.2 args[u] = vl at *
      generalize (args.take u).map (valF (varsOf k) x'.1 x'.2) = al at *
      generalize args[u].length = aul at *
      go_wp2_with fail
      refine (uh HEX).mono ?_
      rintro e w2 ⟨rfl,hb2⟩
      have hb02:=(uh HBA2).trans (hb2.mono hw0s)
      have hA2 : Below w2.heap.size w2 (w2.alloc (.cells #[.int .i64 vl] 3)):=(Below.refl _ _).alloc (Nat.le_refl _) _
      have HO4:=hide (((uh HOA).below hb2).below hA2)
      have HB02:=hide hb02
      have HA2:=hide hA2
      have hbs : w0.heap.size ≤ (w2.alloc (.cells #[.int .i64 vl] 3)).heap.size:=Nat.le_trans hb02.size hA2.size
      have hual : u ≤ 1000:=by omega
      have HLT9:=hide hlt9
      clear hb2 hb02 hA2 hlt9
      go_wp2_with (at_builtin; go_must (refine wpList_append_oneN elInt _ rfl _ _ rfl w0.heap.size _ al rfl (uh HO4) w2.heap.size vl rfl (fun j u hu => by rw [World.cell?_alloc_at _ _ _ _ rfl]; simpa [elInt] using hu) (by rw [uh HLT9]; show (_ + 1) * 8 ≤ _; omega) hbs ?_))
      intro v' w5 ho5 hg5 hn5
      obtain ⟨g5,c5,hv5⟩ : ∃ g5 c5,v' = .slice (some ⟨g5,0,none⟩) (u + 1) c5:=by
       rcases ho5.shape with ⟨_,h9⟩ | ⟨g5,c5,h9,_⟩
       ·exact absurd h9 (by simp)
       ·exact ⟨g5,c5,by rw [h9,List.length_append,uh HLT9]; rfl⟩
      subst hv5
      have HO5:=hide ho5
      have HB5:=hide (((uh HO4).grown ((uh HB02).trans ((uh HA2).mono (uh HB02).size)) hg5 hbs (Nat.le_refl _)))
      clear ho5 hg5 hn5
      go_wp2
      go_roundg (args.length - (u + 1))
      case measure => have:=uh HGU; omega
      case rel => exact ⟨u + 1,g5,c5,by omega,rfl,by go_num,rfl,by rw [uh HTK]; exact uh HO5,uh HB5⟩
     ·have hue : u = args.length:=by omega
      subst hue
      rw [List.take_length,← (uh HCR).har] at HOA
      clear hul
      obtain ⟨_,⟨y7,y8,_⟩,_⟩:=((uh HR0).later hbA).cells
      have HCEL : Hid (∀ w2,Below w1.heap.size w1 w2 → Below W.heap.size W w2 ∧ (w2.cell? ⟨rb,0,none⟩ = some mv ∧ w2.cell? ⟨rb,1,none⟩ = some (.pointer (some ⟨pb,0,none⟩))) ∧ w2.cell? ⟨rb,8,none⟩ = some (.slice ia k.insts.length ic) ∧ w2.cell? ⟨rb,11,none⟩ = some sv' ∧ w2.cell? ⟨wr.heap.size,2,none⟩ = some (.int .i64 (q : Int)) ∧ w2.cell? ⟨pb,3,none⟩ = some (.slice xa3 ks.length xc3)):=fun w2 hb2 => by
       have hb02:=hbA.trans (hb2.mono hbA.size)
       have hbW:=(uh HBW1).trans (hb2.mono (uh HBW1).size)
       obtain ⟨⟨z0,z1,_⟩,⟨_,z8,_⟩,⟨_,z11,_⟩,_⟩:=((uh HR0).later hb02).cells
       exact ⟨hbW,⟨z0,z1⟩,z8,z11,((uh HBX).below hb02 (uh HBX).lt).cell (i:=2) rfl,uh HPC3 w2 hbW⟩
      obtain ⟨hof1,hof0,hofs⟩:=off_facts ks cls k (uh HE).hk (uh HE).ok
      have HOFS:=hide hofs
      have HOF0:=hide hof0
      have HQL:=hide (uh HCG).ql
      have HINS:=hide ((fok_of ks (uh HE).ok).ins cls (List.getElem?_eq_some_iff.1 (uh HE).hk).1).2
      have hke : ks[cls]'(List.getElem?_eq_some_iff.1 (uh HE).hk).1 = k:=(List.getElem?_eq_some_iff.1 (uh HE).hk).2
      rw [hke] at HINS
      have hfln:=uh HFL
      have HCLS:=hide (List.getElem?_eq_some_iff.1 (uh HE).hk).1
      have HBB:=hide hbA
      clear hbA hof1 hof0 hofs hke y8
      go_wp2
      go_loopg [12,13] q (fun gm fv iv w2 => ∃ (u : Nat),u ≤ q ∧ gm = q - u ∧ iv = .int .i64 u ∧ fv = .int .i64 ((offF ks k u : Nat) : Int) ∧ Below w1.heap.size w1 w2)
      case atStart => exact ⟨0,Nat.zero_le _,by omega,rfl,by rw [uh HOF0],Below.refl _ _⟩
      case round =>
       clear y7
       obtain ⟨u,hu,hgu,rfl,rfl,hb2⟩:=hrel
       rename World => w2
       have HGU2:=hide hgu
       have HB2:=hide hb2
       obtain ⟨hBW2,⟨z0,z1⟩,z8,z11,zb,zp⟩:=uh HCEL w2 hb2
       have HBW2:=hide hBW2
       clear hgu hb2
       by_cases huq : u < q
       ·have hui : u < k.insts.length:=by have:=uh HQL; omega
        obtain ⟨ib,io,rfl,hic⟩:=uh HINX u hui
        have i0:=hic w2 hBW2
        obtain ⟨h1,h2⟩:=uh HINS u hui
        obtain ⟨gu,hgu⟩:=Int.eq_ofNat_of_zero_le h1
        rw [hgu] at i0 h2
        have hguk : gu < ks.length:=by have:=uh HCLS; omega
        obtain ⟨xb,xo,rfl,hxc⟩:=uh HCEX gu hguk
        have x0:=hxc w2 hBW2
        obtain ⟨o4,o5⟩:=uh HOFS u gu hui (by rw [List.getD_eq_getElem?_getD,List.getElem?_eq_getElem hui,Option.getD_some,hgu])
        have hwr2 : IntKind.i64.wrap (((offF ks k u : Nat) : Int) + ((fAt ks gu).length : Int)) = ((offF ks k (u + 1) : Nat) : Int):=by
         rw [o4,IntKind.wrap_i64]
         omega
        have huI : (u : Int) < (q : Int):=by omega
        have huL : (u : Int) < (k.insts.length : Int):=by omega
        have hgL : (gu : Int) < (ks.length : Int):=by omega
        have HD:=hide (below_dN (uh HB2))
        clear hic hxc o4 o5 h1 h2 hgu hBW2 z0 z11
        generalize hofn : offF ks k (u + 1) = ofn at *
        have HOFN:=hide hofn
        clear hofn
        generalize offF ks k u = ofu at *
        generalize (fAt ks gu).length = fl at *
        go_wp2_with fail
        go_quiet ((fail))
        go_wp2
        go_roundg (q - (u + 1))
        case measure => have:=uh HGU2; omega
        case rel => exact ⟨u + 1,by omega,rfl,by go_num,by rw [uh HOFN],uh HD _⟩
       ·have huq2 : q = u:=by omega
        subst huq2
        have hqi:=uh HQL
        obtain ⟨ib,io,hia,hic⟩:=uh HINX q hqi
        subst hia
        have i0:=hic w2 hBW2
        have hgq : k.insts[q] = (g : Int):=by
         have h9:=(uh HCG).gq
         rw [List.getD_eq_getElem?_getD,List.getElem?_eq_getElem hqi,Option.getD_some] at h9
         exact h9
        rw [hgq] at i0
        have hgk : g < ks.length:=(List.getElem?_eq_some_iff.1 (uh HCG).gk).1
        obtain ⟨xb,xo,hxa,hxc⟩:=uh HCEX g hgk
        subst hxa
        obtain ⟨o4,o5⟩:=uh HOFS q g hqi (uh HCG).gq
        have hqL : (q : Int) < (k.insts.length : Int):=by omega
        have hgL : (g : Int) < (ks.length : Int):=by omega
        have hN:=(uh HX).sl
        have hN9:=uh HFL
        obtain ⟨sa,sc,hsve⟩:=(uh HR0).hs.slice
        subst hsve
        have hscN : x'.2.length ≤ sc:=by
         rcases (uh HR0).hs.shape with ⟨h8,h9⟩ | ⟨_,_,h8,_,_,h9⟩
         ·rw [h9]; exact Nat.zero_le _
         ·simp only [Value.slice.injEq] at h8
          rw [h8.2.2]
          exact h9
        rw [(uh HCR).res] at HNX HRR
        have HWOK2:=hide (uh HWOK g gc (uh HCG).gk (uh HCG).gi st ar (uh HCR).stl (uh HCR).arl (uh HCR).s32 (uh HCR).a32)
        obtain ⟨to9,hto9⟩ : ∃ to9,to9 = offF ks k q + (fAt ks g).length:=⟨_,rfl⟩
        have hwr3 : IntKind.i64.wrap (((offF ks k q : Nat) : Int) + ((fAt ks g).length : Int)) = (to9 : Int):=by
         rw [IntKind.wrap_i64]
         omega
        have hsl1:=fun w' => cut_lh sa x'.2.length sc (offF ks k q) to9 (by omega) (by omega) w'
        have hsl2:=fun w' => cut_h sa x'.2.length sc (offF ks k q) (by omega) w'
        have hsl3:=fun w' => cut_l sa x'.2.length sc to9 (by omega) w'
        have HMID : Hid (∀ w',Below w0.heap.size w0 w' → SlAt 1 8 RInt 0 w' (.slice (if sc = offF ks k q then sa else sa.map (·.add (offF ks k q * 1))) (to9 - offF ks k q) (sc - offF ks k q)) st ∧ SlAt 1 8 RInt 0 w' (.slice (if sc = 0 then sa else sa.map (·.add (0 * 1))) (offF ks k q - 0) (sc - 0)) (x'.2.take (offF ks k q)) ∧ SlAt 1 8 RInt 0 w' (.slice (if sc = to9 then sa else sa.map (·.add (to9 * 1))) (x'.2.length - to9) (sc - to9)) (x'.2.drop to9)):=fun w' hb' => by
         have hO:=((uh HR0).later hb').hs
         have hX:=uh HX
         have h1:=hO.midI hX.s32 (by omega) (offF ks k q) (to9 - offF ks k q) (by omega)
         have h2:=hO.midI hX.s32 (by omega) 0 (offF ks k q) (by omega)
         have h3:=hO.midI hX.s32 (by omega) to9 (x'.2.length - to9) (by omega)
         rw [(uh HCR).hst]
         rw [List.drop_zero] at h2
         rw [List.take_of_length_le (by rw [List.length_drop]; exact Nat.le_refl _)] at h3
         refine ⟨?_,by rw [Nat.sub_zero]; exact h2,h3⟩
         rw [show (fAt ks g).length = to9 - offF ks k q by omega]
         exact h1
        have HLA : Hid ((x'.2.take (offF ks k q)).length = offF ks k q ∧ (x'.2.drop to9).length = x'.2.length - to9):=by
         refine hide ⟨?_,?_⟩
         ·rw [List.length_take]; omega
         ·rw [List.length_drop]
        rw [← hto9] at HNX HRR
        have hoN : offF ks k q ≤ 1000000 ∧ to9 ≤ 1000000 ∧ (fAt ks g).length ≤ 1000000:=by omega
        generalize (.slice (if sc = offF ks k q then sa else sa.map (·.add (offF ks k q * 1))) (to9 - offF ks k q) (sc - offF ks k q) : Value) = sl1 at hsl1 HMID
        generalize (.slice (if sc = 0 then sa else sa.map (·.add (0 * 1))) (offF ks k q - 0) (sc - 0) : Value) = sl2 at hsl2 HMID
        generalize (.slice (if sc = to9 then sa else sa.map (·.add (to9 * 1))) (x'.2.length - to9) (sc - to9) : Value) = sl3 at hsl3 HMID
        have HWKC : Hid (∀ w',Below w1.heap.size w1 w' → Calls Tryz.prog 60 #[.agg #[mv],.pointer (some ⟨pb,0,none⟩),.int .i64 (g : Int),sl1,.slice (some ⟨g1,0,none⟩) args.length c1] w' (WkPost ks n g st ar w')):=fun w' hb' => by
         have hb0':=(uh HBB).trans (hb'.mono (uh HBB).size)
         have hbW':=(uh HB0).trans (hb0'.mono (uh HB0).size)
         refine (uh HE).wk g gc (uh HCG).gk (Nat.lt_of_lt_of_le (uh HCG).gi (uh HE).cn) st ar sl1 _ w' hbW' (uh HMID w' hb0').1 (((uh HOA).below hb').at (R:=RInt) (fun x hx => ⟨rfl,?_⟩) ?_) (uh HCR).stl (uh HCR).arl (uh HCR).s32 (uh HCR).a32
         ·have:=(uh HCR).a32 x hx
          unfold Q32 at this
          unfold I64
          omega
         ·have:=(uh HCR).arl
          have:=(uh HCG).args
          show _ * 8 ≤ _
          simp only at *
          omega
        have HCX9:=hide (fun w' hb' => hxc w' hb')
        have HPUT : Hid (∀ (u : Nat) (hu : u < outs.length),∃ p : Nat,placeI (varsOf k) outs[u] = (p : Int) ∧ p < (varsOf k).length):=fun u hu => by
         have h9:=(uh HCG).puts u hu
         have h8:=place_bd (varsOf k) outs[u]
         obtain ⟨p,hp⟩:=Int.eq_ofNat_of_zero_le (show 0 ≤ placeI (varsOf k) outs[u] by simp only at h9; omega)
         exact ⟨p,hp,by omega⟩
        have HOUTL : Hid (outs.length = (walkR ks n g st ar).2.1.length):=(uh HCG).outs.trans (uh HWOK2).1.2.symm
        have HR1L : Hid ((walkR ks n g st ar).1.length = (fAt ks g).length):=(uh HWOK2).1.1
        have hto9':=hto9
        generalize hR9 : walkR ks n g st ar = R9 at HNX HRR HWOK2 HOUTL HR1L
        have HR9:=hide hR9
        clear hR9
        clear hic hgq o4 o5 hN hN9 hscN hBW2 HINX HCEX HOFS hto9 HARX HAL HEXP HINS HQL HCLS HWOK HIN HME hxc
        generalize hofq : offF ks k q = off at *
        generalize hfq : (fAt ks g).length = fl at *
        have HTO9:=hide hto9'
        have HOL:=hide hoN
        clear hofq hfq hto9' hoN
        have x0p:=uh HCX9 w2 (uh HBW2)
        clear x0p
        go_wp2_with fail
        go_quiet ((fail))
        have hb3 : Below w1.heap.size w1 (w2.drewN nq):=below_dN (uh HB2) nq
        obtain ⟨hBW3,⟨z0',z1'⟩,z8',z11',zb',zp'⟩:=uh HCEL (w2.drewN nq) hb3
        have x0:=uh HCX9 (w2.drewN nq) hBW3
        have HB3:=hide hb3
        have HBW3:=hide hBW3
        clear z0 z1 z8 z11 zb zp i0 hb3 hBW3 HB2 HBW2
        generalize w2.drewN nq = w3 at *
        have HWC : Hid (Calls Tryz.prog 60 #[.agg #[mv],.pointer (some ⟨pb,0,none⟩),.int .i64 (g : Int),sl1,.slice (some ⟨g1,0,none⟩) args.length c1] w3.drew fun e w' => ∃ rv ov,e = .returned (.tuple #[rv,ov,.int .i64 (IntKind.i64.wrap R9.2.2)]) ∧ Hid ((SlAt 1 8 RInt w3.heap.size w' rv R9.1 ∧ SlAt 1 8 RInt w3.heap.size w' ov R9.2.1) ∧ Below w3.heap.size w3 w') ∧ w'.cell? ⟨rb,0,none⟩ = some mv ∧ w'.cell? ⟨rb,1,none⟩ = some (.pointer (some ⟨pb,0,none⟩)) ∧ w'.cell? ⟨rb,11,none⟩ = some (.slice sa x'.2.length sc)):=by
         refine hide ((uh HWKC w3.drew (uh HB3).drew).mono ?_)
         rintro e w' ⟨rv,ov,he,h1,h2,h3⟩
         rw [uh HR9] at he h1 h2
         have h3' : Below w3.heap.size w3 w':=below_drew_l h3
         obtain ⟨_,⟨q0,q1⟩,_,q11,_⟩:=uh HCEL w' ((uh HB3).trans (h3'.mono (uh HB3).size))
         exact ⟨rv,ov,he,⟨⟨h1,h2⟩,h3'⟩,q0,q1,q11⟩
        clear HWKC z8' zb'
        go_wp2_with fail
        go_region_held3 (fun w' => w'.cell? ⟨rb,0,none⟩ = some mv ∧ w'.cell? ⟨rb,1,none⟩ = some (.pointer (some ⟨pb,0,none⟩)) ∧ w'.cell? ⟨rb,11,none⟩ = some (.slice sa x'.2.length sc)) (go_keep) (first | (go_at_call 60; refine (uh HWC).mono ?_; rintro e w4 ⟨rv,ov,rfl,HF4,q0,q1,q11⟩))
        obtain ⟨ra,rc,hrve⟩:=(uh HF4).1.1.shape
        subst hrve
        obtain ⟨oa9,oc9,hove⟩:=(uh HF4).1.2.shape
        subst hove
        have hb14 : Below w1.heap.size w1 w4:=(uh HB3).trans ((uh HF4).2.mono (uh HB3).size)
        have hb04 : Below w0.heap.size w0 w4:=(uh HBB).trans (hb14.mono (uh HBB).size)
        have hR4:=(uh HR0).later hb04
        have HR4:=hide hR4
        have HB04:=hide hb04
        have hA4 : Below w4.heap.size w4 (w4.alloc (.cells #[] 3)):=(Below.refl _ _).alloc (Nat.le_refl _) _
        have q11a : (w4.alloc (.cells #[] 3)).cell? ⟨rb,11,none⟩ = some (.slice sa x'.2.length sc):=(hR4.later hA4).cells.2.2.1.2.1
        have HST4:=hide (OwnV.start (E:=elInt) w4 w4.heap.size (Nat.le_refl _))
        have HMA:=hide (uh HMID _ (hb04.trans (hA4.mono hb04.size))).2.1
        have HMC : Hid (∀ w',Below w4.heap.size w4 w' → SlAt 1 8 RInt 0 w' sl3 (x'.2.drop to9)):=fun w' hb' => (uh HMID w' (hb04.trans (hb'.mono hb04.size))).2.2
        have HRB : Hid (rb < w4.heap.size):=hR4.blk.lt
        have HA4:=hide hA4
        have hlB:=uh HR1L
        have HXS:=hide (uh HX).sl
        clear hb14 hb04 hR4 hA4 q0 q1 q11 z0' z1' z11' zp' x0 HCEL HMID HWC
        generalize hpA : x'.2.take off = pA at *
        generalize hpC : x'.2.drop to9 = pC at *
        clear hpA hpC
        have hbdA : (0 + pA.length) * 8 ≤ 140737488355328 ∧ (pA.length + R9.1.length) * 8 ≤ 140737488355328 ∧ (pA.length + R9.1.length + pC.length) * 8 ≤ 140737488355328:=by
         have h1:=(uh HLA).1
         have h2:=(uh HLA).2
         have h3:=uh HOL
         have h4:=uh HXS
         have h5:=uh HFL
         omega
        have HBDA:=hide hbdA
        clear hbdA hlB
        go_wp2_with (at_builtin; go_must (refine wpList_append_allF elInt (R:=RInt) (fun _ _ _ h => h.1) _ rfl _ _ rfl w4.heap.size w4.heap.size 0 [] rfl (uh HST4) sl2 rfl pA (uh HMA) (uh HBDA).1 (by simp) ?_))
        intro ga ca9 w5 ho5 hg5
        have hl5 : ([] : List Int).length + pA.length = pA.length:=by simp
        try rw [List.nil_append] at ho5
        try rw [hl5] at ho5
        try rw [hl5]
        have hb45 : Below w4.heap.size w4 w5:=(uh HST4).grown (uh HA4) hg5 (by simp) (Nat.le_refl _)
        have HO5:=hide ho5
        have HB45:=hide hb45
        have HRV5:=hide (((uh HF4).1.1.stays RInt_kept hb45).lower RInt_lowers (Nat.zero_le _))
        have hz45:=hb45.size
        clear ho5 hg5 hb45 hl5 q11a
        go_wp2_with (at_builtin; go_must (refine wpList_append_allF elInt (R:=RInt) (fun _ _ _ h => h.1) _ rfl _ _ rfl w4.heap.size ga ca9 pA rfl (uh HO5) _ rfl R9.1 (uh HRV5) (uh HBDA).2.1 hz45 ?_))
        intro gb cb9 w6 ho6 hg6
        try rw [← List.length_append] at ho6
        try rw [← List.length_append]
        have hb46 : Below w4.heap.size w4 w6:=(uh HO5).grown (uh HB45) hg6 hz45 (Nat.le_refl _)
        have HO6:=hide ho6
        have HB46:=hide hb46
        have HMC6:=hide (uh HMC w6 hb46)
        have hz46:=hb46.size
        have q11b : w6.cell? ⟨rb,11,none⟩ = some (.slice sa x'.2.length sc):=((uh HR4).later hb46).cells.2.2.1.2.1
        clear ho6 hg6 hb46
        go_wp2_with (at_builtin; go_must (refine wpList_append_allF elInt (R:=RInt) (fun _ _ _ h => h.1) _ rfl _ _ rfl w4.heap.size gb cb9 (pA ++ R9.1) rfl (uh HO6) sl3 rfl pC (uh HMC6) (by rw [List.length_append]; exact (uh HBDA).2.2) hz46 ?_))
        intro gd cd9 w7 ho7 hg7
        have hb47 : Below w4.heap.size w4 w7:=(uh HO6).grown (uh HB46) hg7 hz46 (Nat.le_refl _)
        have hl7 : (pA ++ R9.1).length + pC.length = (pA ++ (R9.1 ++ pC)).length:=by rw [← List.length_append,List.append_assoc]
        have hl8 : pA.length + R9.1.length + pC.length = (pA ++ (R9.1 ++ pC)).length:=by rw [← hl7,List.length_append]
        have hl9 : pA.length + (R9.1.length + pC.length) = (pA ++ (R9.1 ++ pC)).length:=by rw [← hl8,Nat.add_assoc]
        try rw [List.append_assoc] at ho7
        first | rw [hl7] at ho7 | rw [hl8] at ho7 | rw [hl9] at ho7
        first | rw [hl7] | rw [hl8] | rw [hl9]
        clear hl7 hl8 hl9
        have hR7:=(uh HR4).later hb47
        obtain ⟨f1,f2⟩:=(uh HR4).fresh hb47 ho7 (Nat.le_trans (uh HB0).size (uh HB04).size)
        obtain ⟨f3,f4⟩:=f1.tick R9.2.2
        have q11c:=hR7.cells.2.2.1.2.1
        have z11c:=hR7.cells.2.2.2.1
        have q12c:=f1.cells.2.2.1.2.2
        have z12c:=f1.cells.2.2.2.2
        have hwr9:=wrap_add2 (c' + 1) R9.2.2
        have hbW7 : Below W.heap.size W w7:=((uh HB0).trans ((uh HB04).mono (uh HB0).size)).trans (hb47.mono ((uh HB0).trans ((uh HB04).mono (uh HB0).size)).size)
        have hrbW:=hR7.rbase
        have hbW8:=hbW7.trans (f2.below _ hbW7.size (fun q9 hq9 => by rw [List.mem_singleton] at hq9; subst hq9; exact hrbW))
        have hbW9:=hbW8.trans (f4.below _ hbW8.size (fun q9 hq9 => by rw [List.mem_singleton] at hq9; subst hq9; exact hrbW))
        have hvlt:=((uh HR0).hv.lt)
        have hz04:=(uh HB04).size
        have HBX9 : Hid (∀ b,b < w4.heap.size → b ≠ rb → ((w7.setCell ⟨rb,11,none⟩ (.slice (some ⟨gd,0,none⟩) (pA ++ (R9.1 ++ pC)).length cd9)).setCell ⟨rb,12,none⟩ (.int .i64 (IntKind.i64.wrap (c' + 1 + R9.2.2)))).heap[b]? = w4.heap[b]?):=fun b hb hn => by
         rw [f4.block b (Nat.lt_of_lt_of_le (Nat.lt_of_lt_of_le hb hb47.size) f2.size) (by simpa using hn),f2.block b (Nat.lt_of_lt_of_le hb hb47.size) (by simpa using hn),hb47.block b hb]
        have HF3:=hide f3
        have HBW9:=hide hbW9
        have HVLT:=hide hvlt
        clear f1 f2 f3 f4 hR7 hbW7 hbW8 hbW9 ho7 hg7 hvlt hb47 q11b
        generalize IntKind.i64.wrap (c' + 1 + R9.2.2) = cwc at hwr9 HBX9 HF3 HBW9
        generalize IntKind.i64.wrap (c' + 1) = cwa at q12c hwr9
        generalize IntKind.i64.wrap R9.2.2 = cwb at *
        have HLN : Hid ((pA ++ (R9.1 ++ pC)).length = (pA ++ (R9.1 ++ pC)).length):=rfl
        generalize (pA ++ (R9.1 ++ pC)).length = LN at *
        have b3n : ((w7.setCell ⟨rb,11,none⟩ (.slice (some ⟨gd,0,none⟩) LN cd9)).setCell ⟨rb,12,none⟩ (.int .i64 cwc)).cell? ⟨wr.heap.size,3,none⟩ = some (.slice oa outs.length oc):=by
         have hlt:=(uh HBX).lt
         have h9:=((uh HBX).below (uh HB04) hlt).cell (i:=3) (v:=.slice oa outs.length oc) rfl
         rw [World.cell?_of_block (w:=w4) (uh HBX9 wr.heap.size (by omega) hbr)]
         exact h9
        obtain ⟨w9,hw9⟩ : ∃ w9,w9 = (w7.setCell ⟨rb,11,none⟩ (.slice (some ⟨gd,0,none⟩) LN cd9)).setCell ⟨rb,12,none⟩ (.int .i64 cwc):=⟨_,rfl⟩
        rw [← hw9] at HBX9 HF3 HBW9
        have HOX : Hid (∀ (u : Nat) (hu : u < outs.length),∃ ob oo,oa = some ⟨ob,oo,none⟩ ∧ ∀ w',Below W.heap.size W w' → w'.cell? ⟨ob,oo + u,none⟩ = some (.string outs[u])):=fun u hu => by
         obtain ⟨ob,oo,c9,y,e1,hb,e2,e3,_⟩:=row_at (uh HSA).outs u hu
         simp only [List.cons.injEq,and_true] at e3
         subst e3
         simp only [Value.slice.injEq] at e1
         exact ⟨ob,oo,e1.1,fun w' hb' => (hb'.cell (p:=⟨ob,_,none⟩) hb).trans e2⟩
        have HVX : Hid (∀ (u : Nat) (hu : u < R9.2.1.length),∃ vb vo,oa9 = some ⟨vb,vo,none⟩ ∧ ∀ w',But (blkL vv) w9 w' → w'.cell? ⟨vb,vo + u,none⟩ = some (.int .i64 (R9.2.1.getD u 0))):=fun u hu => by
         have h9:=(uh HF4).1.2
         obtain ⟨_,_,e1,_,_,hx⟩:=h9
         simp only [Value.slice.injEq] at e1
         obtain ⟨vb,vo,cs,e2,hlo,hlt,hcl,hc,hR⟩:=hx u hu
         obtain ⟨rfl,_⟩:=hR
         have h0:=hc 0 (by simp)
         simp only [Nat.mul_one,Nat.add_zero,List.getElem_cons_zero] at h0
         refine ⟨vb,vo,e1.1.trans e2,fun w' hb' => ?_⟩
         have hz3 : w0.heap.size ≤ w3.heap.size:=Nat.le_trans (uh HBB).size (uh HB3).size
         have hrb0:=(uh HR0).blk.lt
         have k1:=uh HBX9 vb hlt (by omega)
         have hlt9 : vb < w9.heap.size:=by
          rcases Nat.lt_or_ge vb w9.heap.size with h | h
          ·exact h
          ·rw [Array.getElem?_eq_none h] at k1
           rw [World.cell?,← k1] at h0
           cases h0
         have k2:=hb'.block vb hlt9 (fun e => by
          have:=(uh HVLT vb (mem_blkL.1 e)).2
          omega)
         rw [World.cell?_of_block (w:=w4) (a:=⟨vb,vo + u,none⟩) (k2.trans k1),h0,List.getD_eq_getElem?_getD,List.getElem?_eq_getElem hu]
         rfl
        have hol : outs.length ≤ 1000:=by
         have h9:=declB_len gc (tree_of ks g gc (uh HCG).gk (uh HE).ok).2.2.2.2.1
         rw [vars_len] at h9
         have:=(uh HCG).outs
         simp only at this
         omega
        have HENV:=hide (uh HE)
        have hoe:=uh HOUTL
        have HSTN : Hid (∀ w',w' = w9 → ∃ svN,RunOwn w' W.heap.size rb pb cls mv [.string k.name,a1,a2,a3,.slice ma k.mems.length mc9,.slice (some ⟨ib,io,none⟩) k.insts.length ic,.slice (some ⟨sb,so,none⟩) k.body.length bc'] vv svN x'.1 (pA ++ (R9.1 ++ pC)) (c' + 1 + R9.2.2)):=fun w' e => ⟨_,e ▸ uh HF3⟩
        clear HBX9 HCG HCR HOA HBB HB3 HF4 HO5 HO6 HB45 HB46 HMC HMC6 HMA HRV5 HST4 HA4 HR4 HB04 HRB HLA HTO9 HOL HBDA HCX9 HWOK2 HR1L HSA hoe HSB HPC3
        go_wp2
        rw [← hw9]
        have HOLN:=hide (uh HOUTL)
        clear hw9 q11c z11c q12c z12c b3n hsl1 hsl2 hsl3 hwr3
        go_loopg [247] outs.length (fun gm iv w8 => ∃ (u : Nat),u ≤ outs.length ∧ gm = outs.length - u ∧ iv = .int .i64 u ∧ RunOwn w8 W.heap.size rb pb cls mv [.string k.name,a1,a2,a3,.slice ma k.mems.length mc9,.slice (some ⟨ib,io,none⟩) k.insts.length ic,.slice (some ⟨sb,so,none⟩) k.body.length bc'] vv (.slice (some ⟨gd,0,none⟩) LN cd9) (putN (varsOf k) outs R9.2.1 u x'.1) (pA ++ (R9.1 ++ pC)) (c' + 1 + R9.2.2) ∧ Below W.heap.size W w8 ∧ But (blkL vv) w9 w8)
        case atStart => exact ⟨0,Nat.zero_le _,by omega,rfl,uh HF3,uh HBW9,But.refl _ _⟩
        case round =>
         obtain ⟨u,hu,hgu,rfl,hR8,hBW8,hBT8⟩:=hrel
         rename World => w8
         have HGU8:=hide hgu
         have HR8:=hide hR8
         have HBW8:=hide hBW8
         have HBT8:=hide hBT8
         clear hgu
         by_cases huo : u < outs.length
         ·obtain ⟨ob,oo,hoe,hoc⟩:=uh HOX u huo
          subst hoe
          have s9:=hoc w8 hBW8
          obtain ⟨vb,vo,hve,hvc⟩:=uh HVX u (by have:=uh HOLN; omega)
          subst hve
          have v9:=hvc w8 hBT8
          obtain ⟨p,hp,hpv⟩:=uh HPUT u huo
          have hE:=uh HENV
          have HPC : Hid (Calls Tryz.prog 108 #[.pointer (some ⟨rb,0,none⟩),.string outs[u],.int .i64 (R9.2.1.getD u 0)] w8 fun e w' => e = .returned (.tuple #[]) ∧ Hid (RunOwn w' W.heap.size rb pb cls mv [.string k.name,a1,a2,a3,.slice ma k.mems.length mc9,.slice (some ⟨ib,io,none⟩) k.insts.length ic,.slice (some ⟨sb,so,none⟩) k.body.length bc'] vv (.slice (some ⟨gd,0,none⟩) LN cd9) (putN (varsOf k) outs R9.2.1 (u + 1) x'.1) (pA ++ (R9.1 ++ pC)) (c' + 1 + R9.2.2) ∧ Below W.heap.size W w' ∧ But (blkL vv) w9 w')):=by
           have hvl9 : (putN (varsOf k) outs R9.2.1 u x'.1).length = (varsOf k).length:=by rw [putN_len]; exact (uh HX).vl
           refine hide ((runPut_ok W w8 hBW8 rb pb cls mv _ vv _ _ _ _ hR8 ks _ _ _ _ ots ens hE.pl k hE.hk outs[u] p hp (by rw [hvl9]; exact hpv) (R9.2.1.getD u 0) (by rw [hvl9]; exact uh HVL)).mono ?_)
           rintro e w' ⟨rfl,h1,h2⟩
           refine ⟨rfl,?_,hBW8.trans (h2.below _ hBW8.size (fun q9 hq9 => hR8.hv.block q9 (mem_blkL.1 hq9))),hBT8.trans h2⟩
           have e9 : putN (varsOf k) outs R9.2.1 (u + 1) x'.1 = (putN (varsOf k) outs R9.2.1 u x'.1).set p (R9.2.1.getD u 0):=by
            rw [putN,List.getD_eq_getElem?_getD (l:=outs),List.getElem?_eq_getElem huo,Option.getD_some,hp,Int.toNat_natCast]
           rw [e9]
           exact h1
          have huI : (u : Int) < (outs.length : Int):=by omega
          have huR : (u : Int) < (R9.2.1.length : Int):=by have:=uh HOLN; omega
          clear hoc hvc hp hpv hE hR8 hBW8 hBT8
          generalize R9.2.1.getD u 0 = rvu at *
          generalize outs[u] = onm at *
          go_wp2_with fail
          refine (uh HPC).mono ?_
          rintro e w10 ⟨rfl,HP10⟩
          go_wp2
          go_roundg (outs.length - (u + 1))
          case measure => have:=uh HGU8; omega
          case rel => exact ⟨u + 1,by omega,rfl,by go_num,(uh HP10).1,(uh HP10).2.1,(uh HP10).2.2⟩
         ·have hue2 : u = outs.length:=by omega
          subst hue2
          clear hu huo hR8 hBW8 hBT8
          go_wp2
          go_roundg r.flat.length
          case measure => have:=uh HG2; omega
          case rel => exact ⟨j + 1,r,_,c' + 1 + R9.2.2,_,by go_num,rfl,uh HJ2,uh HT2,uh HTR,uh HNX,uh HR8,uh HBW8,(uh HRR).1,by have:=(uh HRR).2; omega⟩
  | br s a el b e r =>
   as_aux_lemma =>
    have hjI : (j : Int) < (to : Int):=by simp only [PL.flat,List.length_cons,List.length_append] at hjt; omega
    obtain ⟨⟨hj,hbj⟩,hsb,hk4,⟨hot,hen⟩,hTa,hTb,hTr⟩:=(uh HT).br
    obtain ⟨sb,so,ov,cv,av,⟨bn,bc',hb'⟩,hSA⟩:=body_at (uh HBD) j hj
    rw [hbj] at hSA
    have hbb:=uh HBA
    rw [hb'] at hbb
    simp only [Value.slice.injEq] at hbb
    obtain ⟨rfl,hbn,rfl⟩:=hbb
    subst hbn
    subst hb'
    obtain ⟨oa,oc,hov⟩:=hSA.outs.shape
    obtain ⟨ca,cc,hcv⟩:=hSA.code.shape
    obtain ⟨aa,ac,hav⟩:=hSA.args.shape
    subst hov hcv hav
    have hSAr:=hSA.stays rfl (uh HB)
    have HSAr:=hide hSAr
    obtain ⟨xlt,s0,s1,s2,s3,s4,s5,hsn,hskd,hsat,xo1,xo2,xo3⟩:=hSAr
    obtain ⟨xr1,⟨xr2,xr3,r9⟩,⟨xr4,xr5,r12⟩,xr6,z12⟩:=(uh HR).cells
    clear xlt xo1 xo2 xo3 xr1 xr2 xr3 xr4 xr5 xr6
    have hA : Below wr.heap.size wr (wr.alloc (.cells (stmC s (.slice oa s.outs.length oc) (.slice ca s.code.length cc) (.slice aa s.args.length ac)) 84)):=(Below.refl _ _).alloc (Nat.le_refl _) _
    obtain ⟨hR0,hbt0⟩:=((uh HR).later hA).tick 1
    have r12':=(hA.cell (p:=⟨rb,12,none⟩) (uh HR).blk.lt).trans r12
    have z12':=((uh HR).later hA).cells.2.2.2.2
    have hB0 : Below W.heap.size W ((wr.alloc (.cells (stmC s (.slice oa s.outs.length oc) (.slice ca s.code.length cc) (.slice aa s.args.length ac)) 84)).setCell ⟨rb,12,none⟩ (.int .i64 (IntKind.i64.wrap (c' + 1)))):=((uh HB).trans (hA.mono (uh HB).size)).trans (hbt0.below _ ((uh HB).trans (hA.mono (uh HB).size)).size (fun q hq => by rw [List.mem_singleton] at hq; subst hq; exact (uh HR).rbase))
    have HBX : Hid (BlkAt ((wr.alloc (.cells (stmC s (.slice oa s.outs.length oc) (.slice ca s.code.length cc) (.slice aa s.args.length ac)) 84)).setCell ⟨rb,12,none⟩ (.int .i64 (IntKind.i64.wrap (c' + 1)))) wr.heap.size 84 (stmC s (.slice oa s.outs.length oc) (.slice ca s.code.length cc) (.slice aa s.args.length ac))):=by
     refine hide (hbt0.blk (blk_box wr _ _) (fun e => ?_))
     rw [List.mem_singleton] at e
     have:=(uh HR).blk.lt
     omega
    have HS0:=hide ((uh HSAr).outs.stays RStr_kept hA)
    have HSA:=hide hSA
    have HR0:=hide hR0
    have HB0:=hide hB0
    have HTR:=hide hTr
    have HSB:=hide hsb
    have hwr:=wrap_add c' 1
    have hbr : wr.heap.size ≠ rb:=by have:=(uh HR).blk.lt; omega
    obtain ⟨w0,hw0⟩ : ∃ w0,w0 = (wr.alloc (.cells (stmC s (.slice oa s.outs.length oc) (.slice ca s.code.length cc) (.slice aa s.args.length ac)) 84)).setCell ⟨rb,12,none⟩ (.int .i64 (IntKind.i64.wrap (c' + 1))):=⟨_,rfl⟩
    rw [← hw0] at HBX HR0 HB0
    have HWS : Hid (w0.heap.size = wr.heap.size + 1):=by
     refine hide ?_
     rw [hw0]
     simp [World.setCell]
    have HTA:=hide hTa
    have HTB:=hide hTb
    clear hSA hA hR0 hbt0 hB0 hTr hsb HSAr HS0 hbj hTa hTb
    generalize IntKind.i64.wrap c' = cw at r12 r12' hwr
    generalize IntKind.i64.wrap (c' + 1) = cw1 at hwr hw0
    have hla : a.flat.length < m ∧ b.flat.length < m:=by
     have h1:=uh HTT
     have h2:=uh HM
     simp only [PL.flat,List.length_cons,List.length_append] at h1
     omega
    have hlen : (PL.br s a el b e r).flat.length = 1 + a.flat.length + 1 + b.flat.length + 1 + r.flat.length:=by simp [PL.flat]; omega
    have HRY : Hid (∀ y : VS × Int,y = (if x'.1.getD (placeI (varsOf k) s.name).toNat 0 ≠ 0 then runR ks k (walkR ks n) a x' else runR ks k (walkR ks n) b x') → (runR ks k (walkR ks n) r y.1).1 = (runR ks k (walkR ks n) t x).1 ∧ c' + 1 + y.2 + (runR ks k (walkR ks n) r y.1).2 = cost + (runR ks k (walkR ks n) t x).2):=fun y hy => by
     have h1:=uh HR1
     have h2:=uh HR2
     simp only [runR] at h1 h2
     rw [← hy] at h1 h2
     exact ⟨h1,by omega⟩
    have hSA9 : SOK (varsOf k).length (fAt ks cls).length (runR ks k (walkR ks n) a x').1:=run_sok ks cls k (uh HE).hk (uh HE).ok (walkR ks n) (uh HWOK) a (uh HTA).ok (uh HTA).wf x' (uh HX)
    have hSB9 : SOK (varsOf k).length (fAt ks cls).length (runR ks k (walkR ks n) b x').1:=run_sok ks cls k (uh HE).hk (uh HE).ok (walkR ks n) (uh HWOK) b (uh HTB).ok (uh HTB).wf x' (uh HX)
    have HSA9:=hide hSA9
    have HSB9:=hide hSB9
    have HIA : Hid (∀ w1,Below w0.heap.size w0 w1 → Calls Tryz.prog 87 #[.pointer (some ⟨rb,0,none⟩),.int .i64 ((j : Int) + 1),.int .i64 ((j + 1 + a.flat.length : Nat) : Int)] w1 (LsPost9 ks n cls k W mv pb rb [.string k.name,a1,a2,a3,a4,a5,.slice (some ⟨sb,so,none⟩) k.body.length bc'] vv a x' (c' + 1))):=fun w1 hb1 => by
     have h9:=uh HIH a.flat.length hla.1 a (j + 1) _ x' (c' + 1) w1 sv' (Nat.le_refl _) (uh HTA) (uh HX) ((uh HR0).later hb1) ((uh HB0).trans (hb1.mono (uh HB0).size))
     rw [show (((j + 1 : Nat) : Int)) = (j : Int) + 1 from by omega] at h9
     exact h9
    have HIB : Hid (∀ w1,Below w0.heap.size w0 w1 → Calls Tryz.prog 87 #[.pointer (some ⟨rb,0,none⟩),.int .i64 (((j + 1 + a.flat.length : Nat) : Int) + 1),.int .i64 ((j + 1 + a.flat.length + 1 + b.flat.length : Nat) : Int)] w1 (LsPost9 ks n cls k W mv pb rb [.string k.name,a1,a2,a3,a4,a5,.slice (some ⟨sb,so,none⟩) k.body.length bc'] vv b x' (c' + 1))):=fun w1 hb1 => by
     have h9:=uh HIH b.flat.length hla.2 b (j + 1 + a.flat.length + 1) _ x' (c' + 1) w1 sv' (Nat.le_refl _) (uh HTB) (uh HX) ((uh HR0).later hb1) ((uh HB0).trans (hb1.mono (uh HB0).size))
     rw [show (((j + 1 + a.flat.length + 1 : Nat) : Int)) = ((j + 1 + a.flat.length : Nat) : Int) + 1 from by omega] at h9
     exact h9
    have hjt2 : j + 1 + a.flat.length + 1 + b.flat.length + 1 + r.flat.length = to:=by rw [hlen] at hjt; omega
    have htt2 : r.flat.length ≤ t.flat.length:=by have:=uh HTT; rw [hlen] at this; omega
    have hgk : r.flat.length < gk:=by have:=uh HG; rw [hlen] at this; omega
    have hoL : j + 1 + a.flat.length < 30000 ∧ j + 1 + a.flat.length + 1 + b.flat.length < 30000:=by omega
    have hj3 : (j : Int) < 30000:=by omega
    have hjB : (j : Int) < (k.body.length : Int):=by omega
    have ht:=uh HSB
    rw [stm_un,Bool.and_eq_true] at ht
    replace ht:=ht.2
    unfold stmTail at ht
    rw [if_neg (by omega),if_neg (by omega),if_pos hk4,inB_place] at ht
    have hp0:=of_decide_eq_true ht
    obtain ⟨p,hp⟩:=Int.eq_ofNat_of_zero_le hp0
    have hpb:=place_bd (varsOf k) s.name
    have hpv : p < x'.1.length:=by rw [(uh HX).vl]; omega
    rw [hp,Int.toNat_natCast] at HRY
    obtain ⟨hci,hcie⟩:=List.getElem?_eq_some_iff.1 (uh HE).hk
    obtain ⟨hoi,hoe⟩:=List.getElem?_eq_some_iff.1 (uh HE).hot
    obtain ⟨hei,hee⟩:=List.getElem?_eq_some_iff.1 (uh HE).hen
    obtain ⟨hoj,hoje⟩:=List.getElem?_eq_some_iff.1 hot
    obtain ⟨hej,heje⟩:=List.getElem?_eq_some_iff.1 hen
    have hPL:=(uh HE).pl.stays (uh HB0)
    have HPLN:=hide hPL
    obtain ⟨yb,yo,yc,y,e1,hyb,e2,y',e3,hyr⟩:=row_at hPL.other cls hoi
    simp only [List.cons.injEq,and_true] at e3
    subst e3
    rw [hoe] at hyr
    obtain ⟨zb,zo,zc,z,e4,hzb,e5,hzz⟩:=row_at hyr j hoj
    obtain ⟨hz1,hz2⟩:=hzz
    simp only [List.cons.injEq,and_true] at hz1
    rw [hoje] at hz1
    subst hz1
    subst e4
    obtain ⟨yb',yo',yc',y2,f1,hyb',f2,y2',f3,hyr'⟩:=row_at hPL.ends cls hei
    simp only [List.cons.injEq,and_true] at f3
    subst f3
    rw [hee] at hyr'
    obtain ⟨zb',zo',zc',z2,f4,hzb',f5,hzz'⟩:=row_at hyr' j hej
    obtain ⟨hz1',hz2'⟩:=hzz'
    simp only [List.cons.injEq,and_true] at hz1'
    rw [heje] at hz1'
    subst hz1'
    subst f4
    have p1:=hPL.c1
    rw [e1] at p1
    have p2:=hPL.c2
    rw [f1] at p2
    have hl1:=hPL.other.lenM
    have hl2:=hPL.ends.lenM
    have hl3:=hyr.lenM
    have hl4:=hyr'.lenM
    have hciI : (cls : Int) < (ots.length : Int):=by omega
    have hciE : (cls : Int) < (ens.length : Int):=by omega
    have hjo : (j : Int) < (ot.length : Int):=by omega
    have hje : (j : Int) < (en.length : Int):=by omega
    obtain ⟨⟨g0,g1,g2⟩,gx⟩:=(uh HR0).cells
    clear g0 gx
    have HGET : Hid (∀ w1,Below w0.heap.size w0 w1 → Calls Tryz.prog 110 #[.pointer (some ⟨rb,0,none⟩),.string s.name] w1 fun e w' => e = .returned (.int .i64 (x'.1.getD p 0)) ∧ Hid (Below w0.heap.size w0 w') ∧ w'.cell? ⟨wr.heap.size,1,none⟩ = some (.string s.name)):=fun w1 hb1 => by
     have hX:=uh HX
     refine (runGet_ok w1 rb pb cls mv _ (varsOf k) x'.1 x'.2 _ (((uh HR0).later hb1).at (hPL.stays hb1) (uh HE).hk ⟨by rw [hX.vl]; exact uh HVL,hX.v32⟩ ⟨by rw [hX.sl]; exact uh HFL,hX.s32⟩) s.name p hp hpv).mono ?_
     rintro e w' ⟨rfl,nn,rfl⟩
     have hb2:=below_dN hb1 nn
     have hbk:=(uh HBX).below hb2 (uh HBX).lt
     exact ⟨rfl,hb2,hbk.cell (i:=1) rfl⟩
    have b1:=(uh HBX).cell (i:=1) (v:=.string s.name) rfl
    have HJ2:=hide hjt2
    have HT2:=hide htt2
    have HG2:=hide hgk
    have HLB:=hide (fun n9 => (uh HBX).below (below_dN (Below.refl w0.heap.size w0) n9) (uh HBX).lt)
    clear hjt hjt2 htt2 hgk HT HR1 HR2 HTT HG HJT HIH HR HB hil hj hlen hla hPL hyr hyr' hz2 hz2' hoe hee hoje heje hot hen e1 f1 ht hp hpb hp0 hpv hsat hskd hsn HIN HME HVL HFL HWOK HE HBD HBA HSB hSA9 hSB9 hcie hci hoi hei hoj hej HPLN hyb hzb hyb' hzb'
    generalize hoN : j + 1 + a.flat.length = oN at *
    generalize heN : oN + 1 + b.flat.length = eN at *
    have HON:=hide hoN
    have HEN:=hide heN
    clear hoN heN
    generalize x'.1.getD p 0 = gv at *
    obtain ⟨kd,nm,atv,outs,code,args⟩:=s
    simp only at hk4
    subst hk4
    unfold stmC at hw0 r12' z12'
    simp only at hw0 r12' z12' s0 s1 s2 s3 s4 s5
    go_wp2_with fail
    rw [← hw0]
    clear hw0 s0 s1 s2 s3 s4 s5 r9 r12 z12 r12' z12'
    go_quiet ((fail))
    have hD1 : Below w0.heap.size w0 (w0.drewN nq):=below_dN (Below.refl _ _) nq
    have g1a : (w0.drewN nq).cell? ⟨rb,1,none⟩ = some (.pointer (some ⟨pb,0,none⟩)):=g1
    have g2a : (w0.drewN nq).cell? ⟨rb,2,none⟩ = some (.int .i64 (cls : Int)):=g2
    have p2a : (w0.drewN nq).cell? ⟨pb,2,none⟩ = some (.slice (some ⟨yb',yo',none⟩) ens.length yc'):=p2
    have f2a : (w0.drewN nq).cell? ⟨yb',yo' + cls,none⟩ = some (.slice (some ⟨zb',zo',none⟩) en.length zc'):=f2
    have f5a : (w0.drewN nq).cell? ⟨zb',zo' + j,none⟩ = some (.int .i64 (eN : Int)):=f5
    have b1a : (w0.drewN nq).cell? ⟨wr.heap.size,1,none⟩ = some (.string nm):=b1
    clear g1 g2 p1 p2 f2 f5 b1 e2 e5
    generalize w0.drewN nq = w1 at *
    go_wp2_with fail
    go_quiet ((fail))
    have hD2 : Below w0.heap.size w0 (w1.drewN nq):=below_dN hD1 nq
    have b1b : (w1.drewN nq).cell? ⟨wr.heap.size,1,none⟩ = some (.string nm):=b1a
    clear g1a g2a p2a f2a f5a b1a hD1
    generalize w1.drewN nq = w2 at *
    have HD2:=hide hD2
    by_cases hgv : gv = 0
    ·subst hgv
     go_wp2_with fail
     refine (uh HGET w2 hD2).mono ?_
     rintro e w3 ⟨rfl,HB3,b1c⟩
     go_wp2_with fail
     refine (uh HIB w3 (uh HB3)).mono ?_
     rintro e w4 ⟨rfl,⟨sv4,hR4⟩,hB4⟩
     have HR4:=hide hR4
     have HB4:=hide hB4
     have HY:=hide (uh HRY (runR ks k (walkR ks n) b x') (by simp))
     clear hR4 hB4 HRY
     go_wp2
     go_roundg r.flat.length
     case measure => have:=uh HG2; omega
     case rel => exact ⟨eN + 1,r,_,_,sv4,by go_num,rfl,uh HJ2,uh HT2,uh HTR,uh HSB9,uh HR4,uh HB4,(uh HY).1,(uh HY).2⟩
    ·have hgb : (gv == 0) = false:=by rw [beq_eq_false_iff_ne]; exact hgv
     go_wp2_with fail
     refine (uh HGET w2 hD2).mono ?_
     rintro e w3 ⟨rfl,HB3,b1c⟩
     go_wp2_with fail
     refine (uh HIA w3 (uh HB3)).mono ?_
     rintro e w4 ⟨rfl,⟨sv4,hR4⟩,hB4⟩
     have HR4:=hide hR4
     have HB4:=hide hB4
     have HY:=hide (uh HRY (runR ks k (walkR ks n) a x') (by rw [if_pos hgv]))
     clear hR4 hB4 HRY
     go_wp2
     go_roundg r.flat.length
     case measure => have:=uh HG2; omega
     case rel => exact ⟨eN + 1,r,_,_,sv4,by go_num,rfl,uh HJ2,uh HT2,uh HTR,uh HSA9,uh HR4,uh HB4,(uh HY).1,(uh HY).2⟩
end Go.Proofs.YtjjldnkhadakcaaGreat
