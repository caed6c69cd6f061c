import Derived.Test.YtlcgnbcgmljpaaaGreatMI14
import Derived.Test.YtlcgnbcgmljpaaaGreatMI9
namespace Go.Proofs.YtlcgnbcgmljpaaaGreat
open Go.RowKit
set_option linter.unusedSimpArgs false
set_option linter.unusedVariables false
theorem aag (ks:List ak) (k:ak) (f:Nat) (s:dh) (ss:List dh) (H:List ByteArray) (d:Int) (hd:¬20<d) (hu:xg s=true) (h4:s.kind≠4) {ok:Bool} (hl:Qz ks k H s=ok):Kv ks k f s ss H d=if ok=false then none else some (.leaf s .nil,ss):=by
 unfold Kv
 rw[if_neg hd,if_neg (by rw[hu];decide),if_neg h4,hl]
theorem a0n (ks:List ak) (k:ak) (f:Nat) (s:dh) (ss:List dh) (H:List ByteArray) (d:Int) (hd:¬20<d) (hu:xg s=true) (h4:s.kind=4):Kv ks k f s ss H d=chF ks k f s ss H d:=by
 unfold Kv
 rw[if_neg hd,if_neg (by rw[hu];decide),if_pos h4]
 rfl
theorem Jo.shape {X:BD} {H:List ByteArray} {w w':World} {o:Option (PL × List dh)} {e:Ending} (h:Jo X H w o e w'):e=.returned .nilIface∨∃x:TypeId × Nat,e=.returned (.iface x.1 (.pointer (some ⟨x.2,0,none⟩))):=by
 unfold Jo at h
 cases o with
 | none=>exact Or.inl h.1
 | some q =>
  obtain⟨x,h1,_⟩:=h
  exact Or.inr ⟨x,h1⟩
set_option maxRecDepth 20000 in
set_option maxHeartbeats 2000000 in
theorem ajm (X:BD) (hE:BE X) (hkb:∀x,x∈X.known->0<=x∧x<=400001) (f:Nat) (hL:Sm X f) (H:List ByteArray) (nx:Nat) (d:Int) (w:World) (hS:BS X w H nx) (hG:GS X w nx) (hf:X.k.body.length-nx<f) (hd:0<=d) (hd2:d<=21) (hH:(H.length:Int)<=d) (s:dh) (sb so:Nat) (ov cv av:Value) (hA:SA X.Wm sb so s ov cv av) :
  Calls Tryz.prog 131 #[.pointer (some ⟨X.bb,0,none⟩),.pointer (some ⟨sb,so,none⟩),.int .i64 d] w (Jo X H w (Kv X.ks X.k f s (X.k.body.drop nx) H d)):=by
 by_cases h20:20<d
 ·rw[show Kv X.ks X.k f s (X.k.body.drop nx) H d=none from if_pos h20]
  have e1:decide (20<d)=true:=decide_eq_true h20
  have HO:=hide hS.old
  clear hE hkb hL hS hG hf hH hA h20
  go_enter Tryz.func131,Tryz.ntmps131
  go_wp2
  go_ret
  exact⟨rfl,uh HO⟩
 have e1:decide (20<d)=false:=decide_eq_false h20
 have Ze:=hide (Zf s sb so ov cv av w (hA.stays rfl (hS.Pj hE)))
 cases hu:xg s
 ·rw[show Kv X.ks X.k f s (X.k.body.drop nx) H d=none by unfold Kv;rw[if_neg h20,if_pos hu]]
  rw[hu] at Ze
  have HOW:Hid (∀w',Below w.heap.size w w'->Below X.W0.heap.size X.W0 w'):=fun w' hb=>(hS.stays hb).old
  clear hE hkb hL hS hG hf hH hA h20 hu
  go_enter Tryz.func131,Tryz.ntmps131
  go_wp2_with fail
  refine(uh Ze).mono ?_
  rintro e w1 ⟨rfl,hb1⟩
  have HB1:=hide hb1
  clear hb1
  go_wp2
  go_ret
  exact⟨rfl,uh HOW _ (uh HB1)⟩
 rw[hu] at Ze
 have HK0:Hid (∀w',Below w.heap.size w w'->w'.cell? ⟨sb,so,none⟩=some (.int .i64 s.kind)):=fun w' hb=>(hA.stays rfl ((hS.stays hb).Pj hE)).c0
 have Hg:Hid (∀w1 o e w2,Below w.heap.size w w1->Jo X H w1 o e w2->Jo X H w o e w2):=fun w1 o e w2 hb h=>by
  unfold Jo at *
  cases o with
  | none=>exact h
  | some q =>
   obtain⟨i,rest⟩:=q
   obtain⟨x,h1,h2,h3,h4,h5⟩:=h
   exact⟨x,h1,jg.mono (fun b h=>⟨Nat.le_trans hb.size h.1,h.2⟩) _ _ h2,h3,(But.of_below hb).trans h4,h5⟩
 have hlo:=hS.lo
 have hnl:=hS.nxl
 by_cases k1:s.kind=1
 ·have HC:Hid (∀w',Below w.heap.size w w'->Calls Tryz.prog 138 #[.pointer (some ⟨X.bb,0,none⟩),.pointer (some ⟨sb,so,none⟩)] w' (Jo X H w (Kv X.ks X.k f s (X.k.body.drop nx) H d))):=fun w' hb=>by
   refine(a0o X hE H nx w' (hS.stays hb) s sb so ov cv av hA k1).mono ?_
   intro e w2 h
   exact uh Hg _ _ _ _ hb (h.st hE (Nat.le_trans hlo hb.size) hnl (aag _ _ _ _ _ _ _ h20 hu (by omega) (by unfold Qz;rw[if_pos k1])))
  rw[k1] at HK0
  clear hE hkb hL hS hG hf hH hA h20 hu Hg
  generalize Kv X.ks X.k f s (X.k.body.drop nx) H d=R at *
  go_enter Tryz.func131,Tryz.ntmps131
  go_wp2_with fail
  refine(uh Ze).mono ?_
  rintro e w1 ⟨rfl,hb1⟩
  have k0:=uh HK0 w1 hb1
  have qg:=hide (uh HC w1 hb1)
  clear hb1
  go_wp2_with fail
  refine(uh qg).mono ?_
  intro e w2 h2
  have H2:=hide h2
  rcases h2.shape with rfl|⟨x,rfl⟩
  all_goals
   clear h2
   go_wp2
   go_ret
   exact uh H2
 by_cases k2:s.kind=2
 ·have HC:Hid (∀w',Below w.heap.size w w'->Calls Tryz.prog 139 #[.pointer (some ⟨X.bb,0,none⟩),.pointer (some ⟨sb,so,none⟩)] w' (Jo X H w (Kv X.ks X.k f s (X.k.body.drop nx) H d))):=fun w' hb=>by
   refine(axb X hE H nx w' (hS.stays hb) s sb so ov cv av hA k2).mono ?_
   intro e w2 h
   exact uh Hg _ _ _ _ hb (h.st hE (Nat.le_trans hlo hb.size) hnl (aag _ _ _ _ _ _ _ h20 hu (by omega) (by unfold Qz;rw[if_neg k1,if_pos k2])))
  rw[k2] at HK0
  clear hE hkb hL hS hG hf hH hA h20 hu Hg
  generalize Kv X.ks X.k f s (X.k.body.drop nx) H d=R at *
  go_enter Tryz.func131,Tryz.ntmps131
  go_wp2_with fail
  refine(uh Ze).mono ?_
  rintro e w1 ⟨rfl,hb1⟩
  have k0:=uh HK0 w1 hb1
  have qg:=hide (uh HC w1 hb1)
  clear hb1
  go_wp2_with fail
  refine(uh qg).mono ?_
  intro e w2 h2
  have H2:=hide h2
  rcases h2.shape with rfl|⟨x,rfl⟩
  all_goals
   clear h2
   go_wp2
   go_ret
   exact uh H2
 by_cases k3:s.kind=3
 ·have HC:Hid (∀w',Below w.heap.size w w'->Calls Tryz.prog 140 #[.pointer (some ⟨X.bb,0,none⟩),.pointer (some ⟨sb,so,none⟩)] w' (Jo X H w (Kv X.ks X.k f s (X.k.body.drop nx) H d))):=fun w' hb=>by
   refine(axc X hE H nx w' (hS.stays hb) (hG.stays hb) s sb so ov cv av hA k3).mono ?_
   intro e w2 h
   exact uh Hg _ _ _ _ hb (h.st hE (Nat.le_trans hlo hb.size) hnl (aag _ _ _ _ _ _ _ h20 hu (by omega) (by unfold Qz;rw[if_neg k1,if_neg k2,if_pos k3])))
  rw[k3] at HK0
  clear hE hkb hL hS hG hf hH hA h20 hu Hg
  generalize Kv X.ks X.k f s (X.k.body.drop nx) H d=R at *
  go_enter Tryz.func131,Tryz.ntmps131
  go_wp2_with fail
  refine(uh Ze).mono ?_
  rintro e w1 ⟨rfl,hb1⟩
  have k0:=uh HK0 w1 hb1
  have qg:=hide (uh HC w1 hb1)
  clear hb1
  go_wp2_with fail
  refine(uh qg).mono ?_
  intro e w2 h2
  have H2:=hide h2
  rcases h2.shape with rfl|⟨x,rfl⟩
  all_goals
   clear h2
   go_wp2
   go_ret
   exact uh H2
 by_cases k4:s.kind=4
 ·have HC:Hid (∀w',Below w.heap.size w w'->Calls Tryz.prog 141 #[.pointer (some ⟨X.bb,0,none⟩),.pointer (some ⟨sb,so,none⟩),.int .i64 d] w' (Jo X H w (Kv X.ks X.k f s (X.k.body.drop nx) H d))):=fun w' hb=>by
   refine(aqy X hE hkb f hL H nx d w' (hS.stays hb) hf hd (by omega) hH s sb so ov cv av hA).mono ?_
   intro e w2 h
   exact uh Hg _ _ _ _ hb (by rw[a0n _ _ _ _ _ _ _ h20 hu k4];exact h)
  rw[k4] at HK0
  clear hE hkb hL hS hG hf hH hA h20 hu Hg
  generalize Kv X.ks X.k f s (X.k.body.drop nx) H d=R at *
  go_enter Tryz.func131,Tryz.ntmps131
  go_wp2_with fail
  refine(uh Ze).mono ?_
  rintro e w1 ⟨rfl,hb1⟩
  have k0:=uh HK0 w1 hb1
  have qg:=hide (uh HC w1 hb1)
  clear hb1
  go_wp2_with fail
  refine(uh qg).mono ?_
  intro e w2 h2
  have H2:=hide h2
  rcases h2.shape with rfl|⟨x,rfl⟩
  all_goals
   clear h2
   go_wp2
   go_ret
   exact uh H2
 have HN:Hid (Kv X.ks X.k f s (X.k.body.drop nx) H d=none):=by
  refine hide ?_
  rw[aag X.ks X.k f s (X.k.body.drop nx) H d h20 hu k4 (show Qz X.ks X.k H s=false by unfold Qz;rw[if_neg k1,if_neg k2,if_neg k3]),if_pos rfl]
 rw[uh HN]
 have HOW:Hid (∀w',Below w.heap.size w w'->Below X.W0.heap.size X.W0 w'):=fun w' hb=>(hS.stays hb).old
 have j1:(s.kind == 1)=false:=by rw[beq_eq_false_iff_ne];exact k1
 have j2:(s.kind == 2)=false:=by rw[beq_eq_false_iff_ne];exact k2
 have j3:(s.kind == 3)=false:=by rw[beq_eq_false_iff_ne];exact k3
 have j4:(s.kind == 4)=false:=by rw[beq_eq_false_iff_ne];exact k4
 clear hE hkb hL hS hG hf hH hA h20 hu Hg HN k1 k2 k3 k4
 go_enter Tryz.func131,Tryz.ntmps131
 go_wp2_with fail
 refine(uh Ze).mono ?_
 rintro e w1 ⟨rfl,hb1⟩
 have k0:=uh HK0 w1 hb1
 have HB1:=hide hb1
 clear hb1
 go_wp2
 go_ret
 exact⟨rfl,uh HOW _ (uh HB1)⟩
theorem axd {ks:List ak} {k:ak} {f:Nat} {s:dh} {ss:List dh} {H:List ByteArray} {d:Int} {i:PL} {r:List dh} (h:Kv ks k f s ss H d=some (i,r)):r.length<=ss.length:=by
 unfold Kv at h
 split at h
 ·cases h
 split at h
 ·cases h
 split at h
 ·split at h
  ·cases h
  split at h
  ·cases h
  rename_i a el r1 h5
  split at h
  ·cases h
  rename_i b en r2 h6
  simp only[Option.some.injEq,Prod.mk.injEq] at h
  obtain⟨_,rfl⟩:=h
  exact Nat.le_trans (afy h6) (afy h5)
 ·split at h
  ·cases h
  simp only[Option.some.injEq,Prod.mk.injEq] at h
  obtain⟨_,rfl⟩:=h
  exact Nat.le_refl _
theorem aup (t i:PL) (o:Option (PL × List dh)):glue t (glue i o)=glue (t.app i) o:=by
 cases o with
 | none=>rfl
 | some p =>
  unfold glue
  simp only[Option.map_some,PL.Ud]
theorem BS.low {X:BD} (hE:BE X) {w w':World} {H:List ByteArray} {nx:Nat} (h:BS X w H nx) (hb:Below X.lo w w'):BS X w' H nx:=by
 obtain⟨gv,g1,g2,g3⟩:=h.gl
 exact⟨h.old.trans (hb.mono (by have:=hE.nb;omega)),Nat.le_trans h.lo hb.size,h.nxl,h.bl.below hb hE.nb.2,h.hl.below hb hE.nh.2,gv,g1,g2,g3.below hb hE.ng.2⟩
set_option maxRecDepth 20000 in
set_option maxHeartbeats 4000000 in
theorem aqz (X:BD) (hE:BE X) (hkb:∀x,x∈X.known->0<=x∧x<=400001) (f:Nat) (hL:∀g,g<f->Sm X g):Sm X f:=by
 intro H nx d w hS hf hd hd2 hH
 have HE:=hide hE
 have hbl:=hE.bl
 obtain⟨ba,bc,hba⟩:=hE.cls.body.shape
 have Ip:=hide hba
 have HBD:=hide hE.cls.body
 have HST:=hide (fun g (hg:g<f) nx' w' (h1:BS X w' H nx') h2 (h3:X.k.body.length-nx'<g) s sb so ov cv av hA=>ajm X hE hkb g (hL g hg) H nx' d w' h1 h2 h3 hd hd2 hH s sb so ov cv av hA)
 have HS:=hide hS
 have HF:=hide hf
 have HLO:=hide hS.lo
 have hnl:=hS.nxl
 clear hL hkb hS hf hba hH hE
 generalize hR:yc X.ks X.k f (X.k.body.drop nx) H d=R at *
 have HR:=hide hR
 clear hR
 go_enter Tryz.func112,Tryz.ntmps112
 go_wp2
 go_loopg [6] (X.k.body.length-nx) (fun g lv wr=>∃(nx' f':Nat) (t0:PL) (n0:List (TypeId × Nat)),nx'<=X.k.body.length∧g=X.k.body.length-nx'∧f'<=f∧X.k.body.length-nx'<f'∧dw ads wr w.heap.size lv n0∧jg X (fun b=>New w.heap.size wr.heap.size b∧lv.ownBlock≠some b) wr t0 n0∧n0.length<=nx'∧BS X wr H nx'∧But (Og X) w wr∧R=glue t0 (yc X.ks X.k f' (X.k.body.drop nx') H d))
 case atStart =>
  refine⟨nx,f,.nil,[],hnl,rfl,Nat.le_refl _,uh HF,dw.nil _ _,rfl,Nat.zero_le _,uh HS,But.refl _ _,?_⟩
  rw[←uh HR]
  cases yc X.ks X.k f (X.k.body.drop nx) H d with
  | none=>rfl
  | some p=>rfl
 case round =>
  obtain⟨m,f',t0,n0,hm,hg,hff,hfm,hown,hnd,a6k,hbs,hbt,hRe⟩:=hrel
  rename World=>wr
  obtain⟨f1,rfl⟩:∃g,f'=g+1:=⟨f'-1,by omega⟩
  have HG:=hide hg
  have HFM:=hide hfm
  have HOW:=hide hown
  have Y0:=hide hnd
  have Me:=hide hbs
  have vg:=hide hbt
  have HRE:=hide hRe
  obtain⟨b0,b1,b2,b3,p0,p1,p2,c1,c4,c6⟩:=hbs.cells (uh HE)
  rw[uh Ip] at c6
  obtain⟨la,lc,hlv⟩:=hown.slice
  subst hlv
  have hn0:n0.length<=30000:=by omega
  clear hg hfm hown hnd hbs hbt hRe b2 b3 p1 p2 c1 c4
  by_cases hlt:m<X.k.body.length
  case neg =>
   have em:m=X.k.body.length:=by omega
   subst em
   have e1:decide ((X.k.body.length:Int)<(X.k.body.length:Int))=false:=decide_eq_false (by omega)
   have HRT:Hid (R=some (t0,[])):=by
    refine hide ?_
    rw[uh HRE,List.drop_length]
    show some (t0.app .nil,[])=_
    rw[PL.Rt]
   clear hlt
   go_wp2_with fail
   go_quiet ((fail))
   have Xp:Hid (Below wr.heap.size wr (wr.drewN nq)):=jw _ _
   generalize wr.drewN nq=w1 at *
   go_wp2
   go_ret2
   rw[uh HRT]
   exact⟨_,n0,rfl,⟨aqt ((uh HOW).below (uh Xp)) hn0,((uh HOW).below (uh Xp)).lt⟩,jg.mono (fun b h=>⟨h.1.1,Nat.lt_of_lt_of_le h.1.2 (uh Xp).size⟩) _ _ (jg.o8 (Ae.of_below (uh Xp)) _ _ (uh Y0)),by simpa using (uh Me).stays (uh Xp),(uh vg).trans (But.of_below (uh Xp)),by simp⟩
  have e1:decide ((m:Int)<(X.k.body.length:Int))=true:=decide_eq_true (by omega)
  have hmI:(m:Int)<(X.k.body.length:Int):=by omega
  obtain⟨sb,so0,ov,cv,av,⟨bn,bc',hb'⟩,hSA⟩:=al3 (uh HBD) m hlt
  have hbb:=uh Ip
  rw[hb'] at hbb
  simp only[Value.slice.injEq] at hbb
  obtain⟨rfl,_,rfl⟩:=hbb
  have HSA:=hide hSA
  have hdr:X.k.body.drop m=X.k.body[m]::X.k.body.drop (m+1):=List.drop_eq_getElem_cons hlt
  rw[hdr] at HRE
  have HDR:=hide hdr
  generalize X.k.body[m]=s at *
  clear hSA hb' hdr
  go_wp2_with fail
  go_quiet ((fail))
  have Xp:Hid (Below wr.heap.size wr (wr.drewN nq)):=jw _ _
  have a0p:=hide ((uh Me).stays (uh Xp))
  generalize wr.drewN nq=w1 at *
  obtain⟨b0',b1',b2,b3,p0',p1,p2,c1,c4,c6'⟩:=(uh a0p).cells (uh HE)
  rw[uh Ip] at c6'
  clear b0 b1 p0 c6 b2 b3 p1 p2 c1 c4
  go_wp2_with fail
  go_quiet ((fail))
  have Ny:Hid (Below wr.heap.size wr (w1.drewN nq)):=below_drewN (uh Xp) _
  have abr:=hide ((uh Me).stays (uh Ny))
  generalize w1.drewN nq=w2 at *
  have k0:=((uh HSA).stays rfl ((uh abr).Pj (uh HE))).c0
  clear b0' b1' p0' c6' a0p Xp
  by_cases Qw:s.kind=5∨s.kind=6
  ·have HRT:Hid (R=some (t0,s::X.k.body.drop (m+1))):=by
    refine hide ?_
    rw[uh HRE,aod _ _ _ _ _ _ _ Qw]
    show some (t0.app .nil,_)=_
    rw[PL.Rt]
   have hl:X.k.body.length-(s::X.k.body.drop (m+1)).length=m:=by rw[List.length_cons,List.length_drop];omega
   have HP:Hid (abv X H w R (.returned (.tuple #[.slice la n0.length lc,.bool true])) w2):=by
    refine hide ?_
    rw[uh HRT]
    refine⟨_,n0,rfl,⟨aqt ((uh HOW).below (uh Ny)) hn0,((uh HOW).below (uh Ny)).lt⟩,jg.mono (fun b h=>⟨h.1.1,Nat.lt_of_lt_of_le h.1.2 (uh Ny).size⟩) _ _ (jg.o8 (Ae.of_below (uh Ny)) _ _ (uh Y0)),?_,(uh vg).trans (But.of_below (uh Ny)),?_⟩
    ·rw[hl];exact uh abr
    ·rw[hl];exact(uh HDR).symm
   clear hl HRT
   rcases Qw with h5|h6
   ·rw[h5] at k0
    clear h5
    go_wp2
    go_ret2
    exact uh HP
   ·rw[h6] at k0
    clear h6
    go_wp2
    go_ret2
    exact uh HP
  have e5:(s.kind == 5)=false:=by rw[beq_eq_false_iff_ne];omega
  have e6:(s.kind == 6)=false:=by rw[beq_eq_false_iff_ne];omega
  have HRO:=hide ((uh HRE).trans (by rw[aqs _ _ _ _ _ _ _ Qw]))
  obtain⟨m1,m2,m3⟩:=(uh abr).move (uh HE) hlt
  have bz:=(uh abr).bl.free 1
  have b1:=((uh abr).cells (uh HE)).b1
  have HSC:=hide (uh HST f1 (by omega) (m+1) _ m1 m2 (by have:=uh HFM;omega) s sb (so0+m*6) ov cv av (uh HSA))
  have HB3:Hid (But (Og X) wr (w2.setCell ⟨X.bb,1,none⟩ (.int .i64 ((m:Int)+1)))):=(But.of_below (uh Ny)).trans m3
  have hmL:(m:Int)+1<=30000:=by omega
  clear m1 m2 m3 Qw HRE
  generalize hst:Kv X.ks X.k f1 s (X.k.body.drop (m+1)) H d=o at *
  have HSL:=hide hst
  clear hst
  go_wp2_with fail
  refine(uh HSC).mono ?_
  cases o with
  | none =>
   rintro e w5 ⟨rfl,hb5⟩
   have zo:=hide hb5
   have HRT:Hid (R=none):=uh HRO
   clear hb5
   have hnn:∀w:World,(binOp .eql 179 .nilIface .nilIface).run Tryz.prog w=.ok (.bool true) w:=fun _=>rfl
   go_wp2
   go_ret2
   rw[uh HRT]
   exact⟨rfl,uh zo⟩
  | some q =>
   obtain⟨it,r⟩:=q
   rintro e w5 ⟨x,rfl,hx,a0q,a0r,N8⟩
   have HRT:Hid (R=glue (t0.app it) (yc X.ks X.k f1 r H d)):=by
    refine hide ?_
    rw[←aup]
    exact uh HRO
   have hrl:r.length<=X.k.body.length-(m+1):=by
    have h9:=axd (uh HSL)
    rwa[List.length_drop] at h9
   have ajn:But (Og X) wr w5:=(uh HB3).trans a0r
   have Nw:=hide ((uh HOW).but ajn (fun k hk=>by have:=((uh HE).inS k hk).2;have:=uh HLO;omega))
   have Ky:=hide hx
   have HW3:Hid (wr.heap.size<=(w2.setCell ⟨X.bb,1,none⟩ (.int .i64 ((m:Int)+1))).heap.size):=(uh HB3).size
   have HN5:=hide (jg.o8 (ajn.o8 (fun k hk h=>by have:=((uh HE).inS k hk).2;have:=h.1.1;have:=uh HLO;omega)) _ _ (uh Y0))
   have a4r:=hide a0q
   have Zy:=hide ((uh vg).trans ajn)
   have Dz:=hide N8
   have hnf:∀w:World,(binOp .eql 179 (.iface x.1 (.pointer (some ⟨x.2,0,none⟩))) .nilIface).run Tryz.prog w=.ok (.bool false) w:=fun _=>rfl
   have hbz:w.heap.size<=w5.heap.size:=(uh Zy).size
   have a6l:wr.heap.size<=w5.heap.size:=ajn.size
   have HA5:Hid (Below w5.heap.size w5 (w5.alloc (.cells #[.iface x.1 (.pointer (some ⟨x.2,0,none⟩))] 179))):=(Below.refl _ _).alloc (Nat.le_refl _) _
   have HO6:=hide ((uh Nw).below (uh HA5))
   clear hx a0q a0r N8 ajn HRO Nw
   go_wp2_with (at_builtin;go_must (refine l9 ads _ rfl _ _ rfl w.heap.size _ n0 rfl (uh HO6) w5.heap.size x rfl (fun j u hu=>by rw[World.cell?_alloc_at _ _ _ _ rfl];simpa[ads] using hu) (by simp[ads];omega) (by simp;omega) ?_))
   intro v' w6 ho6 hg6 hn6
   have Sr:=(uh HOW).lt
   have hblk:∀b,b<w5.heap.size->(Value.slice la n0.length lc).ownBlock≠some b->w6.heap[b]?=w5.heap[b]?:=fun b hb hne=>(hg6.block b (Nat.lt_of_lt_of_le hb (uh HA5).size) (fun e=>hne e.symm)).trans ((uh HA5).block b hb)
   have aof:w5.heap.size<=w6.heap.size:=Nat.le_trans (uh HA5).size hg6.size
   have Va:∀B,B<=w.heap.size->Below B w5 w6:=fun B hB=>⟨hg6.os.trans (uh HA5).os,hg6.tape.trans (uh HA5).tape,hg6.output.trans (uh HA5).output,aof,fun k hk=>hblk k (by omega) (fun e=>by have:=(Sr k e).1;omega)⟩
   have a4s:=hide ((uh a4r).low (uh HE) (Va X.lo (uh HLO)))
   have a4t:Hid (But (Og X) w w6):=⟨(Va _ (Nat.le_refl _)).os.trans (uh Zy).os,(Va _ (Nat.le_refl _)).tape.trans (uh Zy).tape,(Va _ (Nat.le_refl _)).output.trans (uh Zy).output,Nat.le_trans (uh Zy).size aof,fun k hk hn=>((Va _ (Nat.le_refl _)).block k hk).trans ((uh Zy).block k hk hn)⟩
   have hna:jg X (fun b=>New w.heap.size w6.heap.size b∧v'.ownBlock≠some b) w6 t0 n0:=by
    refine jg.mono (fun b h=>⟨⟨h.1.1,by have:=h.1.2;omega⟩,fun e=>?_⟩) _ _ (jg.o8 ⟨aof,fun b h hb=>hblk b hb h.2⟩ _ _ (uh HN5))
    rcases hn6 b e with h9|h9
    ·exact h.2 h9
    ·have:=h.1.2
     omega
   have hnb:jg X (fun b=>New w.heap.size w6.heap.size b∧v'.ownBlock≠some b) w6 it [x]:=by
    refine jg.mono (fun b h=>⟨⟨by have:=h.1;have:=uh HW3;have:=(uh vg).size;omega,by have:=h.2;omega⟩,fun e=>?_⟩) _ _ (jg.o8 ⟨aof,fun b h hb=>hblk b hb (fun e=>by have:=(Sr b e).2;have:=h.1;have:=uh HW3;omega)⟩ _ _ (uh Ky))
    rcases hn6 b e with h9|h9
    ·have:=(Sr b h9).2
     have:=h.1
     have:=uh HW3
     omega
    ·have:=h.2
     omega
   have HN6:=hide (jg.app _ _ _ _ hna hnb)
   have V9:=hide ho6
   obtain⟨ga,a6m,hv'⟩:=ho6.slice
   subst hv'
   clear ho6 hg6 hn6 Sr hblk Va hna hnb
   go_wp2
   go_roundg (X.k.body.length-(X.k.body.length-r.length))
   case measure=>have:=uh HG;omega
   case rel=>exact⟨X.k.body.length-r.length,f1,t0.app it,n0++[x],by omega,rfl,by omega,by have:=uh HFM;omega,uh V9,uh HN6,by simp;omega,uh a4s,uh a4t,by rw[←uh Dz];exact uh HRT⟩
theorem axe (X:BD) (hE:BE X) (hkb:∀x,x∈X.known->0<=x∧x<=400001) (f:Nat):Sm X f:=by
 induction f using Nat.strongRecOn with
 | ind f ih=>exact aqz X hE hkb f ih
end Go.Proofs.YtlcgnbcgmljpaaaGreat
