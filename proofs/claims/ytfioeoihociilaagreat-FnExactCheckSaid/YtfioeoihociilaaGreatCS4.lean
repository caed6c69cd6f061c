import Derived.Test.YtfioeoihociilaaGreatApp
import Derived.Deep.RegionLaw
import Derived.Test.YtfioeoihociilaaGreatWI1
import Derived.Test.YtfioeoihociilaaGreatWI3
import Derived.Test.YtfioeoihociilaaGreatOwn
namespace Go.Proofs.YtfioeoihociilaaGreat
open Go.RowKit
set_option linter.unusedSimpArgs false
set_option linter.unusedVariables false
theorem Sc1.below {W w w' : World} {nv fz : Value} {vs us : List DVar} {G : List Int} {sb vb : Nat} {ov : Value} {D : List Nat} {C L : List DCond → Option Nat} {N : Nat} (h : Sc1 W w nv fz vs G sb vb ov D C L N us) (hb : Below w.heap.size w w') : Sc1 W w' nv fz vs G sb vb ov D C L N us:=by
 refine ⟨h.old.trans (hb.mono h.old.size),h.trie.below hb,h.sblk.below hb h.sblk.lt,h.ord.below hb,h.dlen,fun k hk => ?_,h.inj,h.dlo,?_,h.slo,h.vlo⟩
 ·obtain ⟨cv,p,h1,h2,h3⟩:=h.decl k hk
  exact ⟨cv,p,h1.below hb h1.lt,h2,h3⟩
 ·obtain ⟨n,f,h1,h2,h3⟩:=h.vars
  exact ⟨n,f,h1,h2.below hb,h3⟩
def DePost (W : World) (nv fz : Value) (vs : List DVar) (G : List Int) (sb vb : Nat) (C : List DCond → Option Nat) (Nmax : Nat) (e : Ending) (w' : World) : Prop :=
 e = .returned (.tuple #[]) ∧ ∃ ov D C' L' N',Sc W w' nv fz vs G sb vb ov D C' L' N' ∧ N' ≤ Nmax ∧ ∀ k q,C k = some q → C' k = some q
set_option maxRecDepth 20000 in
set_option maxHeartbeats 8000000 in
theorem declare_ok (W w : World) (nv : Value) (vs : List DVar) (G : List Int) (sb vb : Nat) (ov : Value) (D : List Nat) (C L : List DCond → Option Nat) (N : Nat) (h : Sc W w nv .nilFunc vs G sb vb ov D C L N) (hG : G.length = vs.length) (bb : Nat) (hbb : C [] = some bb) (xs : List DVar) (xv : Value) (hx : SlAt 3 48 RVar 0 W xv xs) (g : Int) (hcl : ∀ v,v ∈ xs → v.clock.length ≤ 1000) (hxl : xs.length ≤ 10000) (hvl : vs.length ≤ 100000) (hN : N ≤ 1000000000) :
  Calls Tryz.prog 33 #[.pointer (some ⟨sb,0,none⟩),xv,.pointer (some ⟨bb,0,none⟩),.int .i64 g] w (DePost W nv .nilFunc (vs ++ xs) (G ++ List.replicate xs.length g) sb vb C (N + 1000 * xs.length)):=by
 obtain ⟨xa,xc,rfl⟩:=hx.shape
 have HX:=hide hx
 have HSC:=hide h
 have HG:=hide hG
 have HBB:=hide hbb
 have HCL:=hide hcl
 have HN:=hide hN
 have HVL:=hide hvl
 clear h hG hbb hcl hx hN hvl
 obtain ⟨PO,hPO⟩ : ∃ PO : Ending → World → Prop,PO = DePost W nv .nilFunc (vs ++ xs) (G ++ List.replicate xs.length g) sb vb C (N + 1000 * xs.length):=⟨_,rfl⟩
 rw [← hPO]
 have HPO:=hide hPO
 clear hPO
 go_enter Tryz.func33,Tryz.ntmps33
 go_wp2
 go_loopg [15] xs.length (fun gm iv wr => ∃ (j : Nat) (ov : Value) (D : List Nat) (C1 L1 : List DCond → Option Nat) (N1 : Nat),j ≤ xs.length ∧ gm = xs.length - j ∧ iv = .int .i64 j ∧ Sc W wr nv .nilFunc (vs ++ xs.take j) (G ++ List.replicate j g) sb vb ov D C1 L1 N1 ∧ N1 ≤ N + 1000 * j ∧ ∀ k q,C k = some q → C1 k = some q)
 case atStart => exact ⟨0,ov,D,C,L,N,Nat.zero_le _,by omega,rfl,by rw [List.take_zero,List.append_nil,List.replicate_zero,List.append_nil]; exact uh HSC,by omega,fun _ _ h => h⟩
 case round =>
  obtain ⟨j,ov1,D1,C1,L1,N1,hj,hg,rfl,hsc,hN1,hC1⟩:=hrel
  rename World => wr
  clear HSC
  have HG9:=hide hg
  have HS1:=hide hsc
  have HN1:=hide hN1
  have HC1:=hide hC1
  clear hg hN1 hC1
  by_cases hlt : j < xs.length
  case neg =>
   have hje : j = xs.length:=by omega
   have HFIN : Hid (PO (.returned (.tuple #[])) wr):=by
    rw [uh HPO]
    have h9:=uh HS1
    rw [hje,List.take_length] at h9
    refine hide ⟨rfl,ov1,D1,C1,L1,N1,h9,?_,uh HC1⟩
    have:=uh HN1
    rw [hje] at this
    exact this
   have hjI : ¬ (j : Int) < (xs.length : Int):=by omega
   clear hsc HS1 hje
   go_wp2
   first
    | exact uh HFIN
    | (go_end0; exact uh HFIN)
  obtain ⟨xb,xo,cs,rfl,_,hxb,hcs,hcc,hRV⟩:=(fun (h : SlAt 3 48 RVar 0 W (.slice xa xs.length xc) xs) => (by
   obtain ⟨a,cap,e,_,_,hx⟩:=h
   simp only [Value.slice.injEq] at e
   obtain ⟨rfl,_,rfl⟩:=e
   exact hx j hlt : ∃ b o cs,xa = some ⟨b,o,none⟩ ∧ 0 ≤ b ∧ b < W.heap.size ∧ cs.length = 3 ∧ (∀ i (hi : i < cs.length),W.cell? ⟨b,o + j * 3 + i,none⟩ = some cs[i]) ∧ RVar 0 W cs xs[j])) (uh HX)
  obtain ⟨cv,rfl,hnl,hty,hcv⟩:=hRV
  have cc : ∀ i (hi : i < 3),wr.cell? ⟨xb,xo + j * 3 + i,none⟩ = some ([Value.string xs[j].name,Value.int .i64 xs[j].type,cv][i]'hi):=fun i hi => (hsc.old.cell (p:=⟨xb,_,none⟩) hxb).trans (hcc i hi)
  have k0:=cc 0 (by omega)
  have k1:=cc 1 (by omega)
  have k2:=cc 2 (by omega)
  simp only [List.getElem_cons_zero,List.getElem_cons_succ,Nat.add_zero] at k0 k1 k2
  obtain ⟨ca,cap,rfl⟩:=hcv.shape
  have hjI : (j : Int) < (xs.length : Int):=by omega
  have HLT:=hide hlt
  have HCV:=hide hcv
  have HCL1:=hide (uh HCL _ (List.getElem_mem hlt))
  have HNL:=hide hnl
  generalize hv : xs[j] = v at *
  have HV:=hide hv
  clear hv hcc hcs cc hcv hnl hty hsc hxb
  go_wp2
  obtain ⟨db,hdb⟩ : ∃ z,z = wr.heap.size + 1:=⟨_,rfl⟩
  obtain ⟨w2,hw2⟩ : ∃ z,z = (wr.alloc (.cells #[.string v.name,.int .i64 v.type,.slice ca v.clock.length cap] 63)).alloc (.cells #[.string v.name,.int .i64 v.type,.slice ca v.clock.length cap,.pointer (some ⟨bb,0,none⟩),.int .i64 g,.nilFunc] 122):=⟨_,rfl⟩
  have hb1 : Below wr.heap.size wr (wr.alloc (.cells #[.string v.name,.int .i64 v.type,.slice ca v.clock.length cap] 63)):=(Below.refl _ _).alloc (Nat.le_refl _) _
  have hb2 : Below wr.heap.size wr w2:=by
   rw [hw2]
   exact hb1.alloc hb1.size _
  have hbx : BlkAt w2 wr.heap.size 63 #[.string v.name,.int .i64 v.type,.slice ca v.clock.length cap]:=by
   rw [hw2]
   exact (blk_box wr #[.string v.name,.int .i64 v.type,.slice ca v.clock.length cap] 63).below ((Below.refl _ _).alloc (Nat.le_refl _) _) (blk_box wr #[.string v.name,.int .i64 v.type,.slice ca v.clock.length cap] 63).lt
  have hbd : BlkAt w2 db 122 (declCells v (.slice ca v.clock.length cap) bb g .nilFunc):=by
   have h9:=blk_box (wr.alloc (.cells #[.string v.name,.int .i64 v.type,.slice ca v.clock.length cap] 63)) #[.string v.name,.int .i64 v.type,.slice ca v.clock.length cap,.pointer (some ⟨bb,0,none⟩),.int .i64 g,.nilFunc] 122
   rw [hw2,hdb]
   simpa [declCells,ptrN] using h9
  have hsc:=uh HS1
  have HNEW : Hid (∀ k,k < (vs ++ xs.take j).length → D1.getD k 0 ≠ db):=fun k hk e => by
   obtain ⟨_,_,h9,_⟩:=hsc.decl k hk
   have:=h9.lt
   omega
  have HDLO : Hid (W.heap.size ≤ db):=by
   have:=hsc.old.size
   refine hide ?_
   omega
  have HS2:=hide (hsc.below hb2)
  have HBD:=hide hbd
  have HBX:=hide hbx
  have HC1B:=hide (uh HC1 _ _ (uh HBB))
  rw [← hdb,← hw2]
  have HB2:=hide hb2
  clear hdb hw2 hb1 hb2 hbx hbd hsc k0 k1 k2
  go_loopg [27] v.clock.length (fun gm iv ww => ∃ (i : Nat) (C2 L2 : List DCond → Option Nat) (N2 p : Nat),i ≤ v.clock.length ∧ gm = v.clock.length - i ∧ iv = .int .i64 i ∧ Sc W ww nv .nilFunc (vs ++ xs.take j) (G ++ List.replicate j g) sb vb ov1 D1 C2 L2 N2 ∧ BlkAt ww db 122 (declCells v (.slice ca v.clock.length cap) p g .nilFunc) ∧ BlkAt ww wr.heap.size 63 #[.string v.name,.int .i64 v.type,.slice ca v.clock.length cap] ∧ C2 (v.clock.take i) = some p ∧ N2 ≤ N1 + i ∧ ∀ k q,C1 k = some q → C2 k = some q)
  case atStart => exact ⟨0,C1,L1,N1,bb,Nat.zero_le _,by omega,rfl,uh HS2,uh HBD,uh HBX,by rw [List.take_zero]; exact uh HC1B,by omega,fun _ _ h => h⟩
  case round =>
   obtain ⟨i,C2,L2,N2,p,hi,hgi,rfl,hsc,hbd,hbx,hp,hN2,hC2⟩:=hrel
   rename World => ww
   clear HS2 HBD HBX HC1B
   have HGI:=hide hgi
   have HN2:=hide hN2
   have HC2:=hide hC2
   have HS3:=hide hsc
   have HBD:=hide hbd
   have HBX:=hide hbx
   have HPP:=hide hp
   have hclb:=uh HCL1
   by_cases hil : i < v.clock.length
   ·obtain ⟨cb,co,cs,rfl,_,hcb,hcs,hcc,hRC⟩:=(fun (h : SlAt 2 24 RCond 0 W (.slice ca v.clock.length cap) v.clock) => (by
     obtain ⟨a,cap',e,_,_,hx⟩:=h
     simp only [Value.slice.injEq] at e
     obtain ⟨rfl,_,rfl⟩:=e
     exact hx i hil : ∃ b o cs,ca = some ⟨b,o,none⟩ ∧ 0 ≤ b ∧ b < W.heap.size ∧ cs.length = 2 ∧ (∀ q (hq : q < cs.length),W.cell? ⟨b,o + i * 2 + q,none⟩ = some cs[q]) ∧ RCond 0 W cs v.clock[i])) (uh HCV)
    obtain ⟨rfl,hcn⟩:=hRC
    have cc : ∀ q (hq : q < 2),ww.cell? ⟨cb,co + i * 2 + q,none⟩ = some ([Value.string v.clock[i].name,Value.bool v.clock[i].on][q]'hq):=fun q hq => (hsc.old.cell (p:=⟨cb,_,none⟩) hcb).trans (hcc q hq)
    have k0:=cc 0 (by omega)
    have k1:=cc 1 (by omega)
    simp only [List.getElem_cons_zero,List.getElem_cons_succ,Nat.add_zero] at k0 k1
    have HIL:=hide hil
    have HNXT : Hid (v.clock.take i ++ [v.clock[i]] = v.clock.take (i + 1)):=by
     rw [List.take_add_one,List.getElem?_eq_getElem hil,Option.toList_some]
     exact hide rfl
    have HCN:=hide hcn
    generalize v.clock[i] = c at *
    have hA : Below ww.heap.size ww (ww.alloc (.cells #[.string c.name,.bool c.on] 65)):=(Below.refl _ _).alloc (Nat.le_refl _) _
    have HA:=hide hA
    have hcbx:=blk_box ww #[.string c.name,.bool c.on] 65
    have HCBX:=hide hcbx
    have hiI : (i : Int) < (v.clock.length : Int):=by omega
    clear hsc hbd hbx hp hN2 hC2 hgi hcc hcs cc hcn hA hcbx
    obtain ⟨w3,hw3⟩ : ∃ z,z = ww.alloc (.cells #[.string c.name,.bool c.on] 65):=⟨_,rfl⟩
    rw [← hw3] at HA HCBX
    have hsc3:=(uh HS3).below (uh HA)
    have hbd3:=(uh HBD).below (uh HA) (uh HBD).lt
    have hbx3:=(uh HBX).below (uh HA) (uh HBX).lt
    have d3 : w3.cell? ⟨db,3,none⟩ = some (.pointer (some ⟨p,0,none⟩)):=hbd3.cell (i:=3) rfl
    have x0 : w3.cell? ⟨ww.heap.size,0,none⟩ = some (.string c.name):=(uh HCBX).cell (i:=0) rfl
    have x1 : w3.cell? ⟨ww.heap.size,1,none⟩ = some (.bool c.on):=(uh HCBX).cell (i:=1) rfl
    have HWC : Hid (Calls Tryz.prog 62 #[.pointer (some ⟨p,0,none⟩),.agg #[.string c.name,.bool c.on]] w3.drew fun e w' => ∃ p' C3 L3,e = .returned (.pointer (some ⟨p',0,none⟩)) ∧ Hid (Sc W (w'.setCell ⟨db,3,none⟩ (.pointer (some ⟨p',0,none⟩))) nv .nilFunc (vs ++ xs.take j) (G ++ List.replicate j g) sb vb ov1 D1 C3 L3 (N2 + 1) ∧ BlkAt (w'.setCell ⟨db,3,none⟩ (.pointer (some ⟨p',0,none⟩))) db 122 (declCells v (.slice (some ⟨cb,co,none⟩) v.clock.length cap) p' g .nilFunc) ∧ BlkAt (w'.setCell ⟨db,3,none⟩ (.pointer (some ⟨p',0,none⟩))) wr.heap.size 63 #[.string v.name,.int .i64 v.type,.slice (some ⟨cb,co,none⟩) v.clock.length cap] ∧ C3 (v.clock.take (i + 1)) = some p' ∧ ∀ k q,C1 k = some q → C3 k = some q) ∧ w'.cell? ⟨db,3,none⟩ = some (.pointer (some ⟨p,0,none⟩)) ∧ w'.frozen? ⟨db,3,none⟩ = false):=by
     have hcl9:=uh HCL1
     have hN9:=uh HN2
     have hN8:=uh HN1
     have hN7:=uh HN
     refine hide ((with_ok w3.drew W.heap.size (fun x => x = vb) C2 L2 N2 (hsc3.trie.below (Below.refl _ _).drew) (v.clock.take i) p (uh HPP) c ?_ ?_ ?_ ?_).mono ?_)
     ·have h9:=uh HCN
      unfold Len at h9
      unfold maxLen
      omega
     ·unfold maxLen
      omega
     ·exact hsc3.old.size
     ·rw [List.length_take]
      omega
     rintro e w' ⟨p',C3,L3,rfl,ht,hc3,hgr⟩
     have hscd : Sc W w3.drew nv .nilFunc (vs ++ xs.take j) (G ++ List.replicate j g) sb vb ov1 D1 C2 L2 N2:=hsc3.below (Below.refl _ _).drew
     have hbdd : BlkAt w3.drew db 122 (declCells v (.slice (some ⟨cb,co,none⟩) v.clock.length cap) p g .nilFunc):=hbd3
     have hbxd : BlkAt w3.drew wr.heap.size 63 #[.string v.name,.int .i64 v.type,.slice (some ⟨cb,co,none⟩) v.clock.length cap]:=hbx3
     have hsc4:=hscd.grow hgr ht
     have hbd4:=hgr.blk hscd.trie hbdd (by decide)
     have hbx4:=hgr.blk hscd.trie hbxd (by decide)
     have hsc5:=hsc4.setNew hbd4 (uh HDLO) (uh HNEW) 3 (.pointer (some ⟨p',0,none⟩))
     have hne : wr.heap.size ≠ db:=fun e => blk_not hbx4 (by decide) (e ▸ hbd4)
     rw [uh HNXT] at hc3
     refine ⟨p',C3,L3,rfl,hide ⟨hsc5,hbd4.set 3 _,?_,hc3,fun k q h9 => hgr.c k q (uh HC2 k q h9)⟩,hbd4.cell (i:=3) rfl,hbd4.free 3⟩
     exact (Below.heap_setCell _ _ _ _ (by simpa using hne)).trans hbx4
    have HW3:=hide hw3
    clear hsc3 hbd3 hbx3 hw3 HCBX HA
    go_wp2_with fail
    rw [← uh HW3]
    clear k0 k1 HW3
    go_region_law (first | (go_simp; go_at_call 62; refine (uh HWC).mono ?_; rintro e w4 ⟨p',C3,L3,rfl,HFIN,y3,z3⟩))
    all_goals
     go_wp2
     obtain ⟨g1,g2,g3,g4,g5⟩:=uh HFIN
     go_roundg (v.clock.length - (i + 1))
     case measure =>
      have h8:=uh HIL
      have h9:=uh HGI
      omega
     case rel => exact ⟨i + 1,C3,L3,N2 + 1,p',uh HIL,rfl,by go_num,g1,g2,g3,g4,by have:=uh HN2; omega,g5⟩
   ·have hie : i = v.clock.length:=by omega
    rw [hie,List.take_length] at hp
    have HPV:=hide hp
    obtain ⟨oa,ocp,hove⟩:=hsc.ord.slice
    subst hove
    have s1:=hsc.sblk.cell (i:=1) (v:=.slice oa D1.length ocp) rfl
    have hA : Below ww.heap.size ww (ww.alloc (.cells #[.pointer (some ⟨db,0,none⟩)] 118)):=(Below.refl _ _).alloc (Nat.le_refl _) _
    have HS5:=hide (hsc.below hA)
    have HBD5:=hide (hbd.below hA hbd.lt)
    have HBX5:=hide (hbx.below hA hbx.lt)
    have hlen : (vs ++ xs.take j).length ≤ 110000:=by
     have:=uh HVL
     rw [List.length_append,List.length_take]
     omega
    have HLEN:=hide hlen
    have HBND : Hid ((D1.length + 1) * elDecl.byt ≤ 140737488355328):=by
     have h9:=hsc.dlen
     refine hide ?_
     simp only [elDecl]
     omega
    have HBS : Hid (W.heap.size ≤ (ww.alloc (.cells #[.pointer (some ⟨db,0,none⟩)] 118)).heap.size):=Nat.le_trans hsc.old.size hA.size
    have HO5:=hide (uh HS5).ord
    have hGl : Hid ((G ++ List.replicate j g).length = (vs ++ xs.take j).length):=by
     have:=uh HG
     have:=uh HLT
     refine hide ?_
     rw [List.length_append,List.length_append,List.length_replicate,List.length_take]
     omega
    have HEQ : Hid (vs ++ xs.take j ++ [v] = vs ++ xs.take (j + 1) ∧ G ++ List.replicate j g ++ [g] = G ++ List.replicate (j + 1) g):=by
     refine hide ⟨?_,?_⟩
     ·have hv9 : xs[j]'(uh HLT) = v:=uh HV
      rw [List.append_assoc,List.take_add_one,List.getElem?_eq_getElem (uh HLT),Option.toList_some,hv9]
     ·rw [List.append_assoc,List.replicate_succ']
    have hiI : ¬ (i : Int) < (v.clock.length : Int):=by omega
    clear hsc hbd hbx hp hN2 hC2 hgi hie hA hlen HS3 HBD HBX
    go_wp2_with (at_builtin; go_must (refine wpList_append_oneN elDecl _ rfl _ _ rfl W.heap.size _ D1 rfl (uh HO5) ww.heap.size db rfl (fun q u hu => by rw [World.cell?_alloc_at _ _ _ _ rfl]; simpa [elDecl] using hu) (uh HBND) (uh HBS) ?_))
    intro v6 w6 ho6 hg6 hn6
    have hsc5:=uh HS5
    have hbx5:=uh HBX5
    have hsc7:=hsc5.order (uh hGl) (uh HBD5) (uh HPV) (uh HCV) (uh HDLO) (uh HNEW) ho6 hg6
    have hsb6 : BlkAt w6 sb 87 #[nv,.slice oa D1.length ocp,.map (some vb)]:=(hg6.block sb hsc5.sblk.lt (fun e => OwnV.notBlk' hsc5.ord hsc5.sblk (by decide) e.symm)).trans hsc5.sblk
    have hbx6 : BlkAt w6 wr.heap.size 63 #[.string v.name,.int .i64 v.type,.slice ca v.clock.length cap]:=(hg6.block wr.heap.size hbx5.lt (fun e => OwnV.notBlk' hsc5.ord hbx5 (by decide) e.symm)).trans hbx5
    obtain ⟨a6,c6,hv6⟩:=ho6.slice
    obtain ⟨n6,hn9⟩ : ∃ z,z = (D1 ++ [db]).length:=⟨_,rfl⟩
    rw [← hn9] at hv6
    subst hv6
    have r1:=hsb6.cell (i:=1) (v:=.slice oa D1.length ocp) rfl
    have rz:=hsb6.free 1
    obtain ⟨w7,hw7⟩ : ∃ z,z = w6.setCell ⟨sb,1,none⟩ (.slice a6 n6 c6):=⟨_,rfl⟩
    rw [← hw7] at hsc7
    have hbx7 : BlkAt w7 wr.heap.size 63 #[.string v.name,.int .i64 v.type,.slice ca v.clock.length cap]:=by
     rw [hw7]
     exact (Below.heap_setCell _ _ _ _ (fun e => blk_not (U:=87) (cs':=#[nv,.slice oa D1.length ocp,.map (some vb)]) hbx6 (by decide) (by have e' : wr.heap.size = sb:=e; rw [e']; exact hsb6))).trans hbx6
    have s2:=hsc7.sblk.cell (i:=2) (v:=.map (some vb)) rfl
    have b0:=hbx7.cell (i:=0) (v:=.string v.name) rfl
    have hnm : v.name.size ≤ maxLen:=by
     have h9:=uh HNL
     unfold Len at h9
     unfold maxLen
     omega
    have HS7:=hide hsc7
    have HW7:=hide hw7
    by_cases hlk0 : lookN (vs ++ xs.take j) v.name < (vs ++ xs.take j).length
    ·have hfin:=hsc7.have_ hlk0
     rw [(uh HEQ).1,(uh HEQ).2] at hfin
     have HF:=hide hfin
     obtain ⟨q9,hlk⟩ : ∃ q9,∀ nq,(Instr.lookup 84 (.map (some vb)) (.string v.name) false).run Tryz.prog (w7.drewN nq) = .ok (.pointer (some ⟨q9,0,none⟩)) (w7.drewN nq):=by
      obtain ⟨n,f,h1,h2,h3⟩:=hsc7.vars
      refine ⟨((D1 ++ [db]).take (vs ++ xs.take j).length).getD (lookN (vs ++ xs.take j) v.name) 0,fun nq => ?_⟩
      have h9:=(h2.below (below_dN (Below.refl _ w7) nq)).look (t:=84) Tryz.underlying9 Tryz.underlying84 (by kernel_rfl) hnm
      rw [h3,varF,if_pos hlk0] at h9
      exact h9
     clear hsc5 hbx5 ho6 hg6 hn6 hsc7 hsb6 hbx6 hbx7 hfin hlk0 hnm HS5 HBD5 HBX5 HO5 HBND HBS hn9
     go_wp2_with fail
     rw [← hw7]
     clear hw7 r1 rz s1
     go_quiet ((fail))
     go_wp2
     go_roundg (xs.length - (j + 1))
     case measure =>
      have h8:=uh HLT
      have h9:=uh HG9
      omega
     case rel =>
      refine ⟨j + 1,_,_,C2,L2,N2,uh HLT,rfl,by go_num,(uh HF).below (below_dN (Below.refl _ _) _),?_,fun k q h => uh HC2 k q (uh HC1 k q h)⟩
      have h1:=uh HN1
      have h2:=uh HN2
      have h3:=hclb
      omega
    ·have hlk : ∀ nq,(Instr.lookup 84 (.map (some vb)) (.string v.name) false).run Tryz.prog (w7.drewN nq) = .ok (.pointer none) (w7.drewN nq):=fun nq => by
      obtain ⟨n,f,h1,h2,h3⟩:=hsc7.vars
      have h9:=(h2.below (below_dN (Below.refl _ w7) nq)).look (t:=84) Tryz.underlying9 Tryz.underlying84 (by kernel_rfl) hnm
      rw [h3,varF,if_neg hlk0] at h9
      exact h9
     have HLK0:=hide hlk0
     have HNM:=hide hnm
     have HBX7:=hide hbx7
     clear hsc5 hbx5 ho6 hg6 hn6 hsc7 hsb6 hbx6 hbx7 hlk0 hnm HS5 HBD5 HBX5 HO5 HBND HBS hn9
     go_wp2_with fail
     rw [← hw7]
     clear hw7 r1 rz s1
     go_quiet ((fail))
     have hs8:=(uh HS7).below (below_dN (Below.refl w7.heap.size w7) nq).drew
     have hbx8 : BlkAt (w7.drewN nq).drew wr.heap.size 63 #[.string v.name,.int .i64 v.type,.slice ca v.clock.length cap]:=uh HBX7
     obtain ⟨w9,hrun,hs9,hg9⟩:=hs8.put (uh HLK0) (uh HNM) (by have:=uh HLEN; unfold maxLen; omega)
     have hvm9 : ∃ es ck,(w7.drewN nq).drew.heap[vb]? = some (.map es ck):=by
      obtain ⟨n,f,h1,h2,h3⟩:=hs8.vars
      obtain ⟨D9,⟨es,ck,h4,_⟩,_⟩:=h2
      exact ⟨es,ck,h4⟩
     have hbx9 : BlkAt w9 wr.heap.size 63 #[.string v.name,.int .i64 v.type,.slice ca v.clock.length cap]:=(hg9.block wr.heap.size hbx8.lt (fun e => by
      simp only [Option.some.injEq] at e
      obtain ⟨es,ck,h4⟩:=hvm9
      rw [← e] at h4
      have h5:=h4.symm.trans hbx8
      cases h5)).trans hbx8
     have HS9 : Hid (w9.cell? ⟨sb,2,none⟩ = some (.map (some vb)) ∧ w9.cell? ⟨wr.heap.size,0,none⟩ = some (.string v.name)):=⟨hs9.sblk.cell (i:=2) rfl,hbx9.cell (i:=0) rfl⟩
     rw [(uh HEQ).1,(uh HEQ).2] at hs9
     have HF:=hide hs9
     unfold ptrN at hrun
     obtain ⟨w8,hw8⟩ : ∃ z,z = w7.drewN nq:=⟨_,rfl⟩
     have t2 : w8.cell? ⟨sb,2,none⟩ = some (.map (some vb)):=by rw [hw8]; exact s2
     have c0 : w8.cell? ⟨wr.heap.size,0,none⟩ = some (.string v.name):=by rw [hw8]; exact b0
     rw [← hw8] at hrun
     clear hs8 hbx8 hg9 hvm9 hbx9 hs9 s2 b0 hlk
     go_wp2_with fail
     rw [← hw8]
     clear hw8
     go_region_held3 (fun w' => w'.cell? ⟨sb,2,none⟩ = some (.map (some vb)) ∧ w'.cell? ⟨wr.heap.size,0,none⟩ = some (.string v.name)) (first | exact uh HS9 | go_keep) (fail)
     go_wp2
     go_roundg (xs.length - (j + 1))
     case measure =>
      have h8:=uh HLT
      have h9:=uh HG9
      omega
     case rel =>
      refine ⟨j + 1,_,_,C2,L2,N2,uh HLT,rfl,by go_num,uh HF,?_,fun k q h => uh HC2 k q (uh HC1 k q h)⟩
      have h1:=uh HN1
      have h2:=uh HN2
      have h3:=hclb
      omega
def C00 (bb : Nat) : List DCond → Option Nat:=setL (fun _ => none) [] bb
theorem C00_at (bb : Nat) : C00 bb [] = some bb:=setL_at _ _ _
theorem C00_of (bb : Nat) (ks : List DCond) (q : Nat) (h : C00 bb ks = some q) : ks = [] ∧ q = bb:=by
 by_cases e : ks = []
 ·subst e
  rw [C00_at] at h
  exact ⟨rfl,(Option.some.inj h).symm⟩
 ·unfold C00 at h
  rw [setL_off _ _ _ _ e] at h
  cases h
theorem trie_start (w : World) (lo bb : Nat) (X : Nat → Prop) (hb : BlkAt w bb 91 #[.pointer none,.string ⟨#[]⟩,.bool false,.int .i64 0,.map none,.int .i64 0,.slice none 0 0]) (hlo : lo ≤ bb) (hX : ∀ x,X x → x < w.heap.size) : Trie w lo X (C00 bb) (fun _ => none) 0:=by
 refine ⟨fun k1 k2 q h1 h2 => ?_,(fun _ _ _ h _ => by cases h),(fun _ _ h => by cases h),fun ks c q h => ?_,fun ks q h => ?_,(fun _ _ h => by cases h),hX⟩
 ·rw [(C00_of bb k1 q h1).1,(C00_of bb k2 q h2).1]
 ·have h1:=(C00_of bb _ q h).1
  simp at h1
 ·obtain ⟨rfl,rfl⟩:=C00_of bb ks q h
  exact ⟨hb,hlo⟩
def giv0 (x : DNode) : List Int:=List.replicate x.ins.length (-2) ++ List.replicate (x.outs.length + x.vars.length) (-1)
def NsPost (w : World) (x : DNode) (nb no : Nat) (e : Ending) (w' : World) : Prop :=
 ∃ sb vb ov D C L N,e = .returned (.pointer (some ⟨sb,0,none⟩)) ∧ Sc w w' (.pointer (some ⟨nb,no,none⟩)) .nilFunc (allV x) (giv0 x) sb vb ov D C L N ∧ N ≤ 1000 * (allV x).length ∧ ∃ bb,C [] = some bb
set_option maxRecDepth 20000 in
set_option maxHeartbeats 8000000 in
theorem newScope_ok (w : World) (x : DNode) (nb no : Nat) (h : At 5 RNode w nb no x) (hcl : ∀ v,v ∈ allV x → v.clock.length ≤ 1000) (hvl : (allV x).length ≤ 10000) :
  Calls Tryz.prog 14 #[.pointer (some ⟨nb,no,none⟩)] w (NsPost w x nb no):=by
 obtain ⟨hbl,cs,hl,hc,v1,v2,v3,v4,rfl,hs,h1,h2,h3,h4⟩:=h
 have k1:=hc 1 (by simp)
 have k2:=hc 2 (by simp)
 have k3:=hc 3 (by simp)
 simp only [List.getElem_cons_zero,List.getElem_cons_succ] at k1 k2 k3
 obtain ⟨i1,n1,rfl⟩:=h1.shape
 obtain ⟨i2,n2,rfl⟩:=h2.shape
 obtain ⟨i3,n3,rfl⟩:=h3.shape
 have H1:=hide h1
 have H2:=hide h2
 have H3:=hide h3
 have hal : (allV x).length = x.ins.length + x.outs.length + x.vars.length:=by
  unfold allV
  rw [List.length_append,List.length_append]
 have HAL:=hide hal
 have HCL:=hide hcl
 have HVL:=hide hvl
 have HBL:=hide hbl
 clear hc hl hs h1 h2 h3 h4 hal hcl hvl
 obtain ⟨PO,hPO⟩ : ∃ PO : Ending → World → Prop,PO = NsPost w x nb no:=⟨_,rfl⟩
 rw [← hPO]
 have HPO:=hide hPO
 clear hPO
 have hmm : ∀ w,(Instr.makeMap 84 none).run Tryz.prog w = .ok (.map (some w.heap.size)) (w.alloc (.map #[] 0)):=fun w => by kernel_rfl
 obtain ⟨w3,hw3⟩ : ∃ z,z = (((w.alloc (.map #[] 0)).alloc (.cells #[.pointer (some ⟨nb,no,none⟩),.slice none 0 0,.map (some w.heap.size)] 87)).alloc (.cells #[.pointer none,.string ⟨#[]⟩,.bool false,.int .i64 0,.map none,.int .i64 0,.slice none 0 0] 91)):=⟨_,rfl⟩
 have hb1 : Below w.heap.size w (w.alloc (.map #[] 0)):=(Below.refl _ _).alloc (Nat.le_refl _) _
 have hb2 : Below w.heap.size w ((w.alloc (.map #[] 0)).alloc (.cells #[.pointer (some ⟨nb,no,none⟩),.slice none 0 0,.map (some w.heap.size)] 87)):=hb1.alloc hb1.size _
 have hb3 : Below w.heap.size w w3:=by rw [hw3]; exact hb2.alloc hb2.size _
 obtain ⟨sb,hsb⟩ : ∃ z,z = w.heap.size + 1:=⟨_,rfl⟩
 obtain ⟨bb,hbb⟩ : ∃ z,z = w.heap.size + 1 + 1:=⟨_,rfl⟩
 have hk2 : BlkAt w3 sb 87 #[.pointer (some ⟨nb,no,none⟩),.slice none 0 0,.map (some w.heap.size)]:=by
  have h9:=(blk_box (w.alloc (.map #[] 0)) #[.pointer (some ⟨nb,no,none⟩),.slice none 0 0,.map (some w.heap.size)] 87)
  have h8:=h9.below ((Below.refl _ _).alloc (Nat.le_refl _) (.cells #[.pointer none,.string ⟨#[]⟩,.bool false,.int .i64 0,.map none,.int .i64 0,.slice none 0 0] 91)) h9.lt
  rw [hw3,hsb]
  simpa using h8
 have hk3 : BlkAt w3 bb 91 #[.pointer none,.string ⟨#[]⟩,.bool false,.int .i64 0,.map none,.int .i64 0,.slice none 0 0]:=by
  have h9:=blk_box ((w.alloc (.map #[] 0)).alloc (.cells #[.pointer (some ⟨nb,no,none⟩),.slice none 0 0,.map (some w.heap.size)] 87)) #[.pointer none,.string ⟨#[]⟩,.bool false,.int .i64 0,.map none,.int .i64 0,.slice none 0 0] 91
  rw [hw3,hbb]
  simpa using h9
 have hkm : MapF Tryz.prog 9 (.pointer none) w3 w.heap.size 0 (fun _ => .pointer none):=by
  have h9 : MapF Tryz.prog 9 (.pointer none) (w.alloc (.map #[] 0)) w.heap.size 0 (fun _ => .pointer none):=MapF.made w
  have h8:=h9.below ((Below.refl _ _).alloc (Nat.le_refl _) (.cells #[.pointer (some ⟨nb,no,none⟩),.slice none 0 0,.map (some w.heap.size)] 87))
  rw [hw3]
  exact h8.below ((Below.refl _ _).alloc (Nat.le_refl _) _)
 have hsc : Sc w w3 (.pointer (some ⟨nb,no,none⟩)) .nilFunc [] [] sb w.heap.size (.slice none 0 0) [] (C00 bb) (fun _ => none) 0 :=
  ⟨hb3,trie_start w3 w.heap.size bb (fun x => x = w.heap.size) hk3 (by omega) (fun x hx => by rw [hx]; exact hkm.lt),hk2,OwnV.nil _ _,rfl,(fun k hk => absurd hk (Nat.not_lt_zero _)),(fun j k hj => absurd hj (Nat.not_lt_zero _)),(fun k hk => absurd hk (Nat.not_lt_zero _)),⟨0,_,Nat.le_refl _,hkm,fun s => by unfold varF lookN; rfl⟩,by omega,Nat.le_refl _⟩
 have cc : ∀ (w' : World) (j : Nat) (u : Value),Below w.heap.size w w' → w.cell? ⟨nb,j,none⟩ = some u → w'.cell? ⟨nb,j,none⟩ = some u:=fun w' j u hb9 hu => (hb9.cell (p:=⟨nb,j,none⟩) hbl).trans hu
 have m1:=cc _ _ _ hb3 k1
 rw [hw3] at m1
 have HCC : Hid (∀ (w' : World),Below w.heap.size w w' → w'.cell? ⟨nb,no + 1,none⟩ = some (.slice i1 x.ins.length n1) ∧ w'.cell? ⟨nb,no + 2,none⟩ = some (.slice i2 x.outs.length n2) ∧ w'.cell? ⟨nb,no + 3,none⟩ = some (.slice i3 x.vars.length n3)):=fun w' hb9 => ⟨cc _ _ _ hb9 k1,cc _ _ _ hb9 k2,cc _ _ _ hb9 k3⟩
 have HSC:=hide hsc
 have HW3:=hide hw3
 have HSB:=hide hsb
 have HBB:=hide hbb
 clear hb1 hb2 hb3 hk2 hk3 hkm hsc cc k1 k2 k3 hw3 hsb hbb
 go_enter Tryz.func14,Tryz.ntmps14
 go_wp2_with fail
 rw [← uh HW3,← uh HBB,← uh HSB]
 have hG0 : ([] : List Int).length = ([] : List DVar).length:=rfl
 have HI : Hid (x.ins.length ≤ 10000 ∧ x.outs.length ≤ 10000 ∧ x.vars.length ≤ 10000 ∧ x.ins.length + x.outs.length + x.vars.length ≤ 10000):=by
  have h1:=uh HAL
  have h2:=uh HVL
  exact hide ⟨by omega,by omega,by omega,by omega⟩
 have HCI : Hid ((∀ v,v ∈ x.ins → v.clock.length ≤ 1000) ∧ (∀ v,v ∈ x.outs → v.clock.length ≤ 1000) ∧ ∀ v,v ∈ x.vars → v.clock.length ≤ 1000):=by
  have h1:=uh HCL
  unfold allV at h1
  exact hide ⟨fun v hv => h1 v (by simp [hv]),fun v hv => h1 v (by simp [hv]),fun v hv => h1 v (by simp [hv])⟩
 refine (declare_ok w w3 _ [] [] sb w.heap.size _ _ (C00 bb) _ 0 (uh HSC) rfl bb (C00_at bb) x.ins _ (uh H1) (-2) (uh HCI).1 (uh HI).1 (Nat.zero_le _) (Nat.zero_le _)).mono ?_
 rintro e w4 ⟨rfl,ov4,D4,C4,L4,N4,hs4,hn4,hc4⟩
 rw [List.nil_append,List.nil_append] at hs4
 have m2:=(uh HCC w4 hs4.old).2.1
 have HS4:=hide hs4
 have HN4:=hide hn4
 have HB4:=hide (hc4 _ _ (C00_at bb))
 clear hs4 hn4 hc4 m1
 go_wp2_with fail
 refine (declare_ok w w4 _ x.ins (List.replicate x.ins.length (-2)) sb w.heap.size _ _ C4 _ N4 (uh HS4) (List.length_replicate) bb (uh HB4) x.outs _ (uh H2) (-1) (uh HCI).2.1 (uh HI).2.1 (by have:=(uh HI).1; omega) (by have:=uh HN4; have:=(uh HI).1; omega)).mono ?_
 rintro e w5 ⟨rfl,ov5,D5,C5,L5,N5,hs5,hn5,hc5⟩
 have m3:=(uh HCC w5 hs5.old).2.2
 have HS5:=hide hs5
 have HN5:=hide hn5
 have HB5:=hide (hc5 _ _ (uh HB4))
 clear hs5 hn5 hc5 m2
 go_wp2_with fail
 refine (declare_ok w w5 _ (x.ins ++ x.outs) (List.replicate x.ins.length (-2) ++ List.replicate x.outs.length (-1)) sb w.heap.size _ _ C5 _ N5 (uh HS5) (by simp) bb (uh HB5) x.vars _ (uh H3) (-1) (uh HCI).2.2 (uh HI).2.2.1 (by have:=(uh HI).2.2.2; rw [List.length_append]; omega) (by have:=uh HN4; have:=uh HN5; have:=(uh HI).2.2.2; omega)).mono ?_
 rintro e w6 ⟨rfl,ov6,D6,C6,L6,N6,hs6,hn6,hc6⟩
 have HFIN : Hid (PO (.returned (.pointer (some ⟨sb,0,none⟩))) w6):=by
  rw [uh HPO]
  have e1 : x.ins ++ x.outs ++ x.vars = allV x:=rfl
  have e2 : List.replicate x.ins.length (-2 : Int) ++ List.replicate x.outs.length (-1) ++ List.replicate x.vars.length (-1) = giv0 x:=by
   unfold giv0
   rw [List.append_assoc,List.replicate_append_replicate]
  rw [e1,e2] at hs6
  refine hide ⟨sb,_,ov6,D6,C6,L6,N6,rfl,hs6,?_,bb,hc6 _ _ (uh HB5)⟩
  have h1:=uh HN4
  have h2:=uh HN5
  have h3:=uh HAL
  rw [h3]
  omega
 clear hs6 hn6 hc6 m3
 go_wp2
 first
  | exact uh HFIN
  | (go_ret; exact uh HFIN)
def firstTo (p : Nat → Bool) : Nat → Option Nat
 | 0 => none
 | n + 1 => match firstTo p n with
  | some k => some k
  | none => if p n then some n else none
theorem first_none {p : Nat → Bool} {n : Nat} (h : ∀ j,j < n → p j = false) : firstTo p n = none:=by
 induction n with
 | zero => rfl
 | succ n ih =>
  unfold firstTo
  rw [ih (fun j hj => h j (by omega))]
  simp [h n (by omega)]
theorem first_hit {p : Nat → Bool} {n k : Nat} (hk : k < n) (hp : p k = true) (h : ∀ j,j < k → p j = false) : firstTo p n = some k:=by
 induction n with
 | zero => omega
 | succ n ih =>
  unfold firstTo
  by_cases e : k = n
  ·subst e
   rw [first_none h]
   simp [hp]
  ·rw [ih (by omega)]
theorem first_some {p : Nat → Bool} {n k : Nat} (hk : k < n) (hp : p k = true) : (firstTo p n).isSome = true:=by
 induction n with
 | zero => omega
 | succ n ih =>
  unfold firstTo
  by_cases e : k = n
  ·subst e
   cases firstTo p k with
   | none => simp [hp]
   | some j => rfl
  ·have:=ih (by omega)
   cases hq : firstTo p n with
   | none => rw [hq] at this; cases this
   | some j => rfl
def dupB (vs : List DVar) (k : Nat) : Bool:=match vs[k]? with | some v => decide (lookI vs v.name < (k : Int)) | none => false
def condBad (vs : List DVar) (ks : List DCond) (j : Nat) : Bool:=match ks[j]? with | some c => decide (lookI vs c.name < 0) || ((lookV vs c.name).type != 2) || !sameC (clkOf vs c.name) (ks.take j) | none => false
def clkBad (vs : List DVar) (k : Nat) : Bool:=match vs[k]? with | some v => (firstTo (condBad vs v.clock) v.clock.length).isSome | none => false
def seenTo (eqs : List DEq) : Nat → List ByteArray
 | 0 => []
 | k + 1 => seenTo eqs k ++ (match eqs[k]? with | some e => e.lhs | none => [])
def lhsBad (vs : List DVar) (nI : Nat) (seen lhs : List ByteArray) (m : Nat) : Bool:=match lhs[m]? with | some x => decide (lookI vs x < (nI : Int)) || inB (seen ++ lhs.take m) x | none => false
def innTot (eqs : List DEq) : Nat → Nat
 | 0 => 0
 | k + 1 => innTot eqs k + (match eqs[k]? with | some e => innerN e | none => 0)
theorem dup_at (vs : List DVar) (k : Nat) (hk : k < vs.length) : dupB vs k = decide (lookI vs vs[k].name < (k : Int)):=by unfold dupB; rw [List.getElem?_eq_getElem hk]
theorem cond_at (vs : List DVar) (ks : List DCond) (j : Nat) (hj : j < ks.length) : condBad vs ks j = (decide (lookI vs ks[j].name < 0) || ((lookV vs ks[j].name).type != 2) || !sameC (clkOf vs ks[j].name) (ks.take j)):=by unfold condBad; rw [List.getElem?_eq_getElem hj]
theorem clk_at (vs : List DVar) (k : Nat) (hk : k < vs.length) : clkBad vs k = (firstTo (condBad vs vs[k].clock) vs[k].clock.length).isSome:=by unfold clkBad; rw [List.getElem?_eq_getElem hk]
theorem lhs_at (vs : List DVar) (nI : Nat) (seen lhs : List ByteArray) (m : Nat) (hm : m < lhs.length) : lhsBad vs nI seen lhs m = (decide (lookI vs lhs[m] < (nI : Int)) || inB (seen ++ lhs.take m) lhs[m]):=by unfold lhsBad; rw [List.getElem?_eq_getElem hm]
end Go.Proofs.YtfioeoihociilaaGreat
