import Derived.Test.YtflcnhfakcgkeaaGreatApp
import Derived.Deep.RegionLaw
import Derived.Test.YtflcnhfakcgkeaaGreatWI1
import Derived.Test.YtflcnhfakcgkeaaGreatWI3
import Derived.Test.YtflcnhfakcgkeaaGreatOwn
namespace Go.Proofs.YtflcnhfakcgkeaaGreat
open Go.RowKit
set_option linter.unusedSimpArgs false
set_option linter.unusedVariables false
theorem Sc1.below {W w w':World} {nv fz:Value} {vs us:List gy} {G:List Int} {sb vb:Nat} {ov:Value} {D:List Nat} {C L:List cu->Option Nat} {N:Nat} (h:Sc1 W w nv fz vs G sb vb ov D C L N us) (hb:Below w.heap.size w w'):Sc1 W w' nv fz vs G sb vb ov D C L N us:=by
 refine⟨h.old.trans (hb.mono h.old.size),h.trie.below hb,h.tq.below hb h.tq.lt,h.ord.below hb,h.Eh,fun k hk=>?_,h.inj,h.Zl,?_,h.slo,h.vlo⟩
 ·obtain⟨cv,p,h1,h2,h3⟩:=h.decl k hk
  exact⟨cv,p,h1.below hb h1.lt,h2,h3⟩
 ·obtain⟨n,f,h1,h2,h3⟩:=h.vars
  exact⟨n,f,h1,h2.below hb,h3⟩
def ap7 (W:World) (nv fz:Value) (vs:List gy) (G:List Int) (sb vb:Nat) (C:List cu->Option Nat) (a2r:Nat) (e:Ending) (w':World):Prop :=
 e=.returned (.tuple #[])∧∃ov D C' L' N',Sc W w' nv fz vs G sb vb ov D C' L' N'∧N'<=a2r∧∀k q,C k=some q->C' k=some q
set_option maxRecDepth 20000 in
set_option maxHeartbeats 8000000 in
theorem Y7 (W w:World) (nv:Value) (vs:List gy) (G:List Int) (sb vb:Nat) (ov:Value) (D:List Nat) (C L:List cu->Option Nat) (N:Nat) (h:Sc W w nv .nilFunc vs G sb vb ov D C L N) (hG:G.length=vs.length) (bb:Nat) (hbb:C []=some bb) (xs:List gy) (xv:Value) (hx:bf 3 48 RVar 0 W xv xs) (g:Int) (hcl:∀v,v∈xs->v.clock.length<=1000) (hxl:xs.length<=10000) (hvl:vs.length<=100000) (hN:N<=1000000000) :
  Calls Tryz.prog 49 #[.pointer (some ⟨sb,0,none⟩),xv,.pointer (some ⟨bb,0,none⟩),.int .i64 g] w (ap7 W nv .nilFunc (vs++xs) (G++List.replicate xs.length g) sb vb C (N+1000*xs.length)):=by
 obtain⟨xa,xc,rfl⟩:=hx.shape
 have HX:=hide hx
 have Nb:=hide h
 have HG:=hide hG
 have V4:=hide hbb
 have Gv:=hide hcl
 have HN:=hide hN
 have HVL:=hide hvl
 clear h hG hbb hcl hx hN hvl
 obtain⟨PO,l7⟩:∃PO:Ending->World->Prop,PO=ap7 W nv .nilFunc (vs++xs) (G++List.replicate xs.length g) sb vb C (N+1000*xs.length):=⟨_,rfl⟩
 rw[←l7]
 have qy:=hide l7
 clear l7
 go_enter Tryz.func49,Tryz.ntmps49
 go_wp2
 go_loopg [15] xs.length (fun gm iv wr=>∃(j:Nat) (ov:Value) (D:List Nat) (C1 L1:List cu->Option Nat) (N1:Nat),j<=xs.length∧gm=xs.length-j∧iv=.int .i64 j∧Sc W wr nv .nilFunc (vs++xs.take j) (G++List.replicate j g) sb vb ov D C1 L1 N1∧N1<=N+1000*j∧∀k q,C k=some q->C1 k=some q)
 case atStart=>exact⟨0,ov,D,C,L,N,Nat.zero_le _,by omega,rfl,by rw[List.take_zero,List.append_nil,List.replicate_zero,List.append_nil];exact uh Nb,by omega,fun _ _ h=>h⟩
 case round =>
  obtain⟨j,ov1,D1,C1,L1,N1,hj,hg,rfl,hsc,hN1,hC1⟩:=hrel
  rename World=>wr
  clear Nb
  have HG9:=hide hg
  have Fb:=hide hsc
  have U6:=hide hN1
  have Ak:=hide hC1
  clear hg hN1 hC1
  by_cases hlt:j<xs.length
  case neg =>
   have hje:j=xs.length:=by omega
   have gq:Hid (PO (.returned (.tuple #[])) wr):=by
    rw[uh qy]
    have h9:=uh Fb
    rw[hje,List.take_length] at h9
    refine hide ⟨rfl,ov1,D1,C1,L1,N1,h9,?_,uh Ak⟩
    have:=uh U6
    rw[hje] at this
    exact this
   have hjI:¬(j:Int)<(xs.length:Int):=by omega
   clear hsc Fb hje
   go_wp2
   first
    | exact uh gq
    | (go_end0;exact uh gq)
  obtain⟨xb,xo,cs,rfl,_,hxb,hcs,hcc,hRV⟩:=(fun (h:bf 3 48 RVar 0 W (.slice xa xs.length xc) xs)=>(by
   obtain⟨a,cap,e,_,_,hx⟩:=h
   simp only[Value.slice.injEq] at e
   obtain⟨rfl,_,rfl⟩:=e
   exact hx j hlt:∃b o cs,xa=some ⟨b,o,none⟩∧0<=b∧b<W.heap.size∧cs.length=3∧(∀i (hi:i<cs.length),W.cell? ⟨b,o+j*3+i,none⟩=some cs[i])∧RVar 0 W cs xs[j])) (uh HX)
  obtain⟨cv,rfl,hnl,hty,hcv⟩:=hRV
  have cc:∀i (hi:i<3),wr.cell? ⟨xb,xo+j*3+i,none⟩=some ([Value.string xs[j].name,Value.int .i64 xs[j].type,cv][i]'hi):=fun i hi=>(hsc.old.cell (p:=⟨xb,_,none⟩) hxb).trans (hcc i hi)
  have k0:=cc 0 (by omega)
  have k1:=cc 1 (by omega)
  have k2:=cc 2 (by omega)
  simp only[List.getElem_cons_zero,List.getElem_cons_succ,Nat.add_zero] at k0 k1 k2
  obtain⟨ca,cap,rfl⟩:=hcv.shape
  have hjI:(j:Int)<(xs.length:Int):=by omega
  have yw:=hide hlt
  have Zp:=hide hcv
  have ay6:=hide (uh Gv _ (List.getElem_mem hlt))
  have HNL:=hide hnl
  generalize hv:xs[j]=v at *
  have HV:=hide hv
  clear hv hcc hcs cc hcv hnl hty hsc hxb
  go_wp2
  obtain⟨db,hdb⟩:∃z,z=wr.heap.size+1:=⟨_,rfl⟩
  obtain⟨w2,hw2⟩:∃z,z=(wr.alloc (.cells #[.string v.name,.int .i64 v.type,.slice ca v.clock.length cap] 68)).alloc (.cells #[.string v.name,.int .i64 v.type,.slice ca v.clock.length cap,.pointer (some ⟨bb,0,none⟩),.int .i64 g,.nilFunc] 73):=⟨_,rfl⟩
  have hb1:Below wr.heap.size wr (wr.alloc (.cells #[.string v.name,.int .i64 v.type,.slice ca v.clock.length cap] 68)):=(Below.refl _ _).alloc (Nat.le_refl _) _
  have hb2:Below wr.heap.size wr w2:=by
   rw[hw2]
   exact hb1.alloc hb1.size _
  have hbx:dh w2 wr.heap.size 68 #[.string v.name,.int .i64 v.type,.slice ca v.clock.length cap]:=by
   rw[hw2]
   exact(jd wr #[.string v.name,.int .i64 v.type,.slice ca v.clock.length cap] 68).below ((Below.refl _ _).alloc (Nat.le_refl _) _) (jd wr #[.string v.name,.int .i64 v.type,.slice ca v.clock.length cap] 68).lt
  have hbd:dh w2 db 73 (Gu v (.slice ca v.clock.length cap) bb g .nilFunc):=by
   have h9:=jd (wr.alloc (.cells #[.string v.name,.int .i64 v.type,.slice ca v.clock.length cap] 68)) #[.string v.name,.int .i64 v.type,.slice ca v.clock.length cap,.pointer (some ⟨bb,0,none⟩),.int .i64 g,.nilFunc] 73
   rw[hw2,hdb]
   simpa[Gu,xk] using h9
  have hsc:=uh Fb
  have ay7:Hid (∀k,k<(vs++xs.take j).length->D1.getD k 0≠db):=fun k hk e=>by
   obtain⟨_,_,h9,_⟩:=hsc.decl k hk
   have:=h9.lt
   omega
  have ay8:Hid (W.heap.size<=db):=by
   have:=hsc.old.size
   refine hide ?_
   omega
  have HS2:=hide (hsc.below hb2)
  have Zo:=hide hbd
  have tu:=hide hbx
  have ay9:=hide (uh Ak _ _ (uh V4))
  rw[←hdb,←hw2]
  have HB2:=hide hb2
  clear hdb hw2 hb1 hb2 hbx hbd hsc k0 k1 k2
  go_loopg [27] v.clock.length (fun gm iv ww=>∃(i:Nat) (C2 L2:List cu->Option Nat) (N2 p:Nat),i<=v.clock.length∧gm=v.clock.length-i∧iv=.int .i64 i∧Sc W ww nv .nilFunc (vs++xs.take j) (G++List.replicate j g) sb vb ov1 D1 C2 L2 N2∧dh ww db 73 (Gu v (.slice ca v.clock.length cap) p g .nilFunc)∧dh ww wr.heap.size 68 #[.string v.name,.int .i64 v.type,.slice ca v.clock.length cap]∧C2 (v.clock.take i)=some p∧N2<=N1+i∧∀k q,C1 k=some q->C2 k=some q)
  case atStart=>exact⟨0,C1,L1,N1,bb,Nat.zero_le _,by omega,rfl,uh HS2,uh Zo,uh tu,by rw[List.take_zero];exact uh ay9,by omega,fun _ _ h=>h⟩
  case round =>
   obtain⟨i,C2,L2,N2,p,hi,hgi,rfl,hsc,hbd,hbx,hp,hN2,hC2⟩:=hrel
   rename World=>ww
   clear HS2 Zo tu ay9
   have HGI:=hide hgi
   have Gy:=hide hN2
   have HC2:=hide hC2
   have Ee:=hide hsc
   have Zo:=hide hbd
   have tu:=hide hbx
   have HPP:=hide hp
   have aza:=uh ay6
   by_cases hil:i<v.clock.length
   ·obtain⟨cb,co,cs,rfl,_,hcb,hcs,hcc,hRC⟩:=(fun (h:bf 2 24 jm 0 W (.slice ca v.clock.length cap) v.clock)=>(by
     obtain⟨a,cap',e,_,_,hx⟩:=h
     simp only[Value.slice.injEq] at e
     obtain⟨rfl,_,rfl⟩:=e
     exact hx i hil:∃b o cs,ca=some ⟨b,o,none⟩∧0<=b∧b<W.heap.size∧cs.length=2∧(∀q (hq:q<cs.length),W.cell? ⟨b,o+i*2+q,none⟩=some cs[q])∧jm 0 W cs v.clock[i])) (uh Zp)
    obtain⟨rfl,hcn⟩:=hRC
    have cc:∀q (hq:q<2),ww.cell? ⟨cb,co+i*2+q,none⟩=some ([Value.string v.clock[i].name,Value.bool v.clock[i].on][q]'hq):=fun q hq=>(hsc.old.cell (p:=⟨cb,_,none⟩) hcb).trans (hcc q hq)
    have k0:=cc 0 (by omega)
    have k1:=cc 1 (by omega)
    simp only[List.getElem_cons_zero,List.getElem_cons_succ,Nat.add_zero] at k0 k1
    have HIL:=hide hil
    have a2s:Hid (v.clock.take i++[v.clock[i]]=v.clock.take (i+1)):=by
     rw[List.take_add_one,List.getElem?_eq_getElem hil,Option.toList_some]
     exact hide rfl
    have HCN:=hide hcn
    generalize v.clock[i]=c at *
    have hA:Below ww.heap.size ww (ww.alloc (.cells #[.string c.name,.bool c.on] 94)):=(Below.refl _ _).alloc (Nat.le_refl _) _
    have HA:=hide hA
    have azb:=jd ww #[.string c.name,.bool c.on] 94
    have anw:=hide azb
    have Yb:(i:Int)<(v.clock.length:Int):=by omega
    clear hsc hbd hbx hp hN2 hC2 hgi hcc hcs cc hcn hA azb
    obtain⟨w3,hw3⟩:∃z,z=ww.alloc (.cells #[.string c.name,.bool c.on] 94):=⟨_,rfl⟩
    rw[←hw3] at HA anw
    have anx:=(uh Ee).below (uh HA)
    have atg:=(uh Zo).below (uh HA) (uh Zo).lt
    have aij:=(uh tu).below (uh HA) (uh tu).lt
    have d3:w3.cell? ⟨db,3,none⟩=some (.pointer (some ⟨p,0,none⟩)):=atg.cell (i:=3) rfl
    have x0:w3.cell? ⟨ww.heap.size,0,none⟩=some (.string c.name):=(uh anw).cell (i:=0) rfl
    have x1:w3.cell? ⟨ww.heap.size,1,none⟩=some (.bool c.on):=(uh anw).cell (i:=1) rfl
    have HWC:Hid (Calls Tryz.prog 84 #[.pointer (some ⟨p,0,none⟩),.agg #[.string c.name,.bool c.on]] w3.drew fun e w'=>∃p' C3 L3,e=.returned (.pointer (some ⟨p',0,none⟩))∧Hid (Sc W (w'.setCell ⟨db,3,none⟩ (.pointer (some ⟨p',0,none⟩))) nv .nilFunc (vs++xs.take j) (G++List.replicate j g) sb vb ov1 D1 C3 L3 (N2+1)∧dh (w'.setCell ⟨db,3,none⟩ (.pointer (some ⟨p',0,none⟩))) db 73 (Gu v (.slice (some ⟨cb,co,none⟩) v.clock.length cap) p' g .nilFunc)∧dh (w'.setCell ⟨db,3,none⟩ (.pointer (some ⟨p',0,none⟩))) wr.heap.size 68 #[.string v.name,.int .i64 v.type,.slice (some ⟨cb,co,none⟩) v.clock.length cap]∧C3 (v.clock.take (i+1))=some p'∧∀k q,C1 k=some q->C3 k=some q)∧w'.cell? ⟨db,3,none⟩=some (.pointer (some ⟨p,0,none⟩))∧w'.frozen? ⟨db,3,none⟩=false):=by
     have a5v:=uh ay6
     have hN9:=uh Gy
     have hN8:=uh U6
     have hN7:=uh HN
     refine hide ((afc w3.drew W.heap.size (fun x=>x=vb) C2 L2 N2 (anx.trie.below (Below.refl _ _).drew) (v.clock.take i) p (uh HPP) c ?_ ?_ ?_ ?_).mono ?_)
     ·have h9:=uh HCN
      unfold Len at h9
      unfold maxLen
      omega
     ·unfold maxLen
      omega
     ·exact anx.old.size
     ·rw[List.length_take]
      omega
     rintro e w' ⟨p',C3,L3,rfl,ht,hc3,hgr⟩
     have ath:Sc W w3.drew nv .nilFunc (vs++xs.take j) (G++List.replicate j g) sb vb ov1 D1 C2 L2 N2:=anx.below (Below.refl _ _).drew
     have a2t:dh w3.drew db 73 (Gu v (.slice (some ⟨cb,co,none⟩) v.clock.length cap) p g .nilFunc):=atg
     have a2u:dh w3.drew wr.heap.size 68 #[.string v.name,.int .i64 v.type,.slice (some ⟨cb,co,none⟩) v.clock.length cap]:=aij
     have a2v:=ath.grow hgr ht
     have aje:=hgr.blk ath.trie a2t (by decide)
     have aii:=hgr.blk ath.trie a2u (by decide)
     have Xl:=a2v.axt aje (uh ay8) (uh ay7) 3 (.pointer (some ⟨p',0,none⟩))
     have hne:wr.heap.size≠db:=fun e=>Et aii (by decide) (e▸aje)
     rw[uh a2s] at hc3
     refine⟨p',C3,L3,rfl,hide ⟨Xl,aje.set 3 _,?_,hc3,fun k q h9=>hgr.c k q (uh HC2 k q h9)⟩,aje.cell (i:=3) rfl,aje.free 3⟩
     exact(Below.heap_setCell _ _ _ _ (by simpa using hne)).trans aii
    have HW3:=hide hw3
    clear anx atg aij hw3 anw HA
    go_wp2_with fail
    rw[←uh HW3]
    clear k0 k1 HW3
    go_region_law (first|(go_simp;go_at_call 84;refine(uh HWC).mono ?_;rintro e w4 ⟨p',C3,L3,rfl,gq,y3,z3⟩))
    all_goals
     go_wp2
     obtain⟨g1,g2,g3,g4,g5⟩:=uh gq
     go_roundg (v.clock.length-(i+1))
     case measure =>
      have h8:=uh HIL
      have h9:=uh HGI
      omega
     case rel=>exact⟨i+1,C3,L3,N2+1,p',uh HIL,rfl,by go_num,g1,g2,g3,g4,by have:=uh Gy;omega,g5⟩
   ·have hie:i=v.clock.length:=by omega
    rw[hie,List.take_length] at hp
    have HPV:=hide hp
    obtain⟨oa,ocp,a2w⟩:=hsc.ord.slice
    subst a2w
    have s1:=hsc.tq.cell (i:=1) (v:=.slice oa D1.length ocp) rfl
    have hA:Below ww.heap.size ww (ww.alloc (.cells #[.pointer (some ⟨db,0,none⟩)] 74)):=(Below.refl _ _).alloc (Nat.le_refl _) _
    have HS5:=hide (hsc.below hA)
    have ati:=hide (hbd.below hA hbd.lt)
    have anz:=hide (hbx.below hA hbx.lt)
    have hlen:(vs++xs.take j).length<=110000:=by
     have:=uh HVL
     rw[List.length_append,List.length_take]
     omega
    have HLEN:=hide hlen
    have atj:Hid ((D1.length+1)*L8.oz<=140737488355328):=by
     have h9:=hsc.Eh
     refine hide ?_
     simp only[L8]
     omega
    have Q7:Hid (W.heap.size<=(ww.alloc (.cells #[.pointer (some ⟨db,0,none⟩)] 74)).heap.size):=Nat.le_trans hsc.old.size hA.size
    have P7:=hide (uh HS5).ord
    have Yd:Hid ((G++List.replicate j g).length=(vs++xs.take j).length):=by
     have:=uh HG
     have:=uh yw
     refine hide ?_
     rw[List.length_append,List.length_append,List.length_replicate,List.length_take]
     omega
    have X7:Hid (vs++xs.take j++[v]=vs++xs.take (j+1)∧G++List.replicate j g++[g]=G++List.replicate (j+1) g):=by
     refine hide ⟨?_,?_⟩
     ·have Qh:xs[j]'(uh yw)=v:=uh HV
      rw[List.append_assoc,List.take_add_one,List.getElem?_eq_getElem (uh yw),Option.toList_some,Qh]
     ·rw[List.append_assoc,List.replicate_succ']
    have Yb:¬(i:Int)<(v.clock.length:Int):=by omega
    clear hsc hbd hbx hp hN2 hC2 hgi hie hA hlen Ee Zo tu
    go_wp2_with (at_builtin;go_must (refine Dl L8 _ rfl _ _ rfl W.heap.size _ D1 rfl (uh P7) ww.heap.size db rfl (fun q u hu=>by rw[World.cell?_alloc_at _ _ _ _ rfl];simpa[L8] using hu) (uh atj) (uh Q7) ?_))
    intro v6 w6 ho6 hg6 hn6
    have Xl:=uh HS5
    have I5:=uh anz
    have aat:=Xl.order (uh Yd) (uh ati) (uh HPV) (uh Zp) (uh ay8) (uh ay7) ho6 hg6
    have ajf:dh w6 sb 78 #[nv,.slice oa D1.length ocp,.map (some vb)]:=(hg6.block sb Xl.tq.lt (fun e=>iw.Dn Xl.ord Xl.tq (by decide) e.symm)).trans Xl.tq
    have Sr:dh w6 wr.heap.size 68 #[.string v.name,.int .i64 v.type,.slice ca v.clock.length cap]:=(hg6.block wr.heap.size I5.lt (fun e=>iw.Dn Xl.ord I5 (by decide) e.symm)).trans I5
    obtain⟨a6,c6,hv6⟩:=ho6.slice
    obtain⟨n6,hn9⟩:∃z,z=(D1++[db]).length:=⟨_,rfl⟩
    rw[←hn9] at hv6
    subst hv6
    have r1:=ajf.cell (i:=1) (v:=.slice oa D1.length ocp) rfl
    have rz:=ajf.free 1
    obtain⟨w7,hw7⟩:∃z,z=w6.setCell ⟨sb,1,none⟩ (.slice a6 n6 c6):=⟨_,rfl⟩
    rw[←hw7] at aat
    have Iz:dh w7 wr.heap.size 68 #[.string v.name,.int .i64 v.type,.slice ca v.clock.length cap]:=by
     rw[hw7]
     exact(Below.heap_setCell _ _ _ _ (fun e=>Et (U:=78) (cs':=#[nv,.slice oa D1.length ocp,.map (some vb)]) Sr (by decide) (by have e':wr.heap.size=sb:=e;rw[e'];exact ajf))).trans Sr
    have s2:=aat.tq.cell (i:=2) (v:=.map (some vb)) rfl
    have b0:=Iz.cell (i:=0) (v:=.string v.name) rfl
    have hnm:v.name.size<=maxLen:=by
     have h9:=uh HNL
     unfold Len at h9
     unfold maxLen
     omega
    have HS7:=hide aat
    have HW7:=hide hw7
    by_cases hlk0:jc (vs++xs.take j) v.name<(vs++xs.take j).length
    ·have hfin:=aat.have_ hlk0
     rw[(uh X7).1,(uh X7).2] at hfin
     have HF:=hide hfin
     obtain⟨q9,hlk⟩:∃q9,∀nq,(Instr.lookup 76 (.map (some vb)) (.string v.name) false).run Tryz.prog (w7.drewN nq)=.ok (.pointer (some ⟨q9,0,none⟩)) (w7.drewN nq):=by
      obtain⟨n,f,h1,h2,h3⟩:=aat.vars
      refine⟨((D1++[db]).take (vs++xs.take j).length).getD (jc (vs++xs.take j) v.name) 0,fun nq=>?_⟩
      have h9:=(h2.below (jf (Below.refl _ w7) nq)).look (t:=76) Tryz.underlying9 Tryz.underlying76 (by kernel_rfl) hnm
      rw[h3,He,if_pos hlk0] at h9
      exact h9
     clear Xl I5 ho6 hg6 hn6 aat ajf Sr Iz hfin hlk0 hnm HS5 ati anz P7 atj Q7 hn9
     go_wp2_with fail
     rw[←hw7]
     clear hw7 r1 rz s1
     go_quiet ((fail))
     go_wp2
     go_roundg (xs.length-(j+1))
     case measure =>
      have h8:=uh yw
      have h9:=uh HG9
      omega
     case rel =>
      refine⟨j+1,_,_,C2,L2,N2,uh yw,rfl,by go_num,(uh HF).below (jf (Below.refl _ _) _),?_,fun k q h=>uh HC2 k q (uh Ak k q h)⟩
      have h1:=uh U6
      have h2:=uh Gy
      have h3:=aza
      omega
    ·have hlk:∀nq,(Instr.lookup 76 (.map (some vb)) (.string v.name) false).run Tryz.prog (w7.drewN nq)=.ok (.pointer none) (w7.drewN nq):=fun nq=>by
      obtain⟨n,f,h1,h2,h3⟩:=aat.vars
      have h9:=(h2.below (jf (Below.refl _ w7) nq)).look (t:=76) Tryz.underlying9 Tryz.underlying76 (by kernel_rfl) hnm
      rw[h3,He,if_neg hlk0] at h9
      exact h9
     have a2x:=hide hlk0
     have HNM:=hide hnm
     have ar9:=hide Iz
     clear Xl I5 ho6 hg6 hn6 aat ajf Sr Iz hlk0 hnm HS5 ati anz P7 atj Q7 hn9
     go_wp2_with fail
     rw[←hw7]
     clear hw7 r1 rz s1
     go_quiet ((fail))
     have hs8:=(uh HS7).below (jf (Below.refl w7.heap.size w7) nq).drew
     have an0:dh (w7.drewN nq).drew wr.heap.size 68 #[.string v.name,.int .i64 v.type,.slice ca v.clock.length cap]:=uh ar9
     obtain⟨w9,hrun,hs9,Qp⟩:=hs8.put (uh a2x) (uh HNM) (by have:=uh HLEN;unfold maxLen;omega)
     have azc:∃es ck,(w7.drewN nq).drew.heap[vb]?=some (.map es ck):=by
      obtain⟨n,f,h1,h2,h3⟩:=hs8.vars
      obtain⟨D9,⟨es,ck,h4,_⟩,_⟩:=h2
      exact⟨es,ck,h4⟩
     have azd:dh w9 wr.heap.size 68 #[.string v.name,.int .i64 v.type,.slice ca v.clock.length cap]:=(Qp.block wr.heap.size an0.lt (fun e=>by
      simp only[Option.some.injEq] at e
      obtain⟨es,ck,h4⟩:=azc
      rw[←e] at h4
      have h5:=h4.symm.trans an0
      cases h5)).trans an0
     have Vx:Hid (w9.cell? ⟨sb,2,none⟩=some (.map (some vb))∧w9.cell? ⟨wr.heap.size,0,none⟩=some (.string v.name)):=⟨hs9.tq.cell (i:=2) rfl,azd.cell (i:=0) rfl⟩
     rw[(uh X7).1,(uh X7).2] at hs9
     have HF:=hide hs9
     unfold xk at hrun
     obtain⟨w8,hw8⟩:∃z,z=w7.drewN nq:=⟨_,rfl⟩
     have t2:w8.cell? ⟨sb,2,none⟩=some (.map (some vb)):=by rw[hw8];exact s2
     have c0:w8.cell? ⟨wr.heap.size,0,none⟩=some (.string v.name):=by rw[hw8];exact b0
     rw[←hw8] at hrun
     clear hs8 an0 Qp azc azd hs9 s2 b0 hlk
     go_wp2_with fail
     rw[←hw8]
     clear hw8
     go_region_held3 (fun w'=>w'.cell? ⟨sb,2,none⟩=some (.map (some vb))∧w'.cell? ⟨wr.heap.size,0,none⟩=some (.string v.name)) (first|exact uh Vx|go_keep) (fail)
     go_wp2
     go_roundg (xs.length-(j+1))
     case measure =>
      have h8:=uh yw
      have h9:=uh HG9
      omega
     case rel =>
      refine⟨j+1,_,_,C2,L2,N2,uh yw,rfl,by go_num,uh HF,?_,fun k q h=>uh HC2 k q (uh Ak k q h)⟩
      have h1:=uh U6
      have h2:=uh Gy
      have h3:=aza
      omega
def C00 (bb:Nat):List cu->Option Nat:=Gt (fun _=>none) [] bb
theorem ajg (bb:Nat):C00 bb []=some bb:=J9 _ _ _
theorem aeb (bb:Nat) (ks:List cu) (q:Nat) (h:C00 bb ks=some q):ks=[]∧q=bb:=by
 by_cases e:ks=[]
 ·subst e
  rw[ajg] at h
  exact⟨rfl,(Option.some.inj h).symm⟩
 ·unfold C00 at h
  rw[Dj _ _ _ _ e] at h
  cases h
theorem an1 (w:World) (lo bb:Nat) (X:Nat->Prop) (hb:dh w bb 112 #[.pointer none,.string ⟨#[]⟩,.bool false,.int .i64 0,.map none,.int .i64 0,.slice none 0 0]) (hlo:lo<=bb) (hX:∀x,X x->x<w.heap.size):Trie w lo X (C00 bb) (fun _=>none) 0:=by
 refine⟨fun k1 k2 q h1 h2=>?_,(fun _ _ _ h _=>by cases h),(fun _ _ h=>by cases h),fun ks c q h=>?_,fun ks q h=>?_,(fun _ _ h=>by cases h),hX⟩
 ·rw[(aeb bb k1 q h1).1,(aeb bb k2 q h2).1]
 ·have h1:=(aeb bb _ q h).1
  simp at h1
 ·obtain⟨rfl,rfl⟩:=aeb bb ks q h
  exact⟨hb,hlo⟩
def qx (x:ay):List Int:=List.replicate x.ins.length (-2)++List.replicate (x.outs.length+x.vars.length) (-1)
def ap8 (w:World) (x:ay) (nb no:Nat) (e:Ending) (w':World):Prop :=
 ∃sb vb ov D C L N,e=.returned (.pointer (some ⟨sb,0,none⟩))∧Sc w w' (.pointer (some ⟨nb,no,none⟩)) .nilFunc (aj x) (qx x) sb vb ov D C L N∧N<=1000*(aj x).length∧∃bb,C []=some bb
set_option maxRecDepth 20000 in
set_option maxHeartbeats 8000000 in
theorem ab4 (w:World) (x:ay) (nb no:Nat) (h:At 5 o7 w nb no x) (hcl:∀v,v∈aj x->v.clock.length<=1000) (hvl:(aj x).length<=10000) :
  Calls Tryz.prog 28 #[.pointer (some ⟨nb,no,none⟩)] w (ap8 w x nb no):=by
 obtain⟨hbl,cs,hl,hc,v1,v2,v3,v4,rfl,hs,h1,h2,h3,h4⟩:=h
 have k1:=hc 1 (by simp)
 have k2:=hc 2 (by simp)
 have k3:=hc 3 (by simp)
 simp only[List.getElem_cons_zero,List.getElem_cons_succ] at k1 k2 k3
 obtain⟨i1,n1,rfl⟩:=h1.shape
 obtain⟨i2,n2,rfl⟩:=h2.shape
 obtain⟨i3,n3,rfl⟩:=h3.shape
 have H1:=hide h1
 have H2:=hide h2
 have H3:=hide h3
 have hal:(aj x).length=x.ins.length+x.outs.length+x.vars.length:=by
  unfold aj
  rw[List.length_append,List.length_append]
 have Gg:=hide hal
 have Gv:=hide hcl
 have HVL:=hide hvl
 have yj:=hide hbl
 clear hc hl hs h1 h2 h3 h4 hal hcl hvl
 obtain⟨PO,l7⟩:∃PO:Ending->World->Prop,PO=ap8 w x nb no:=⟨_,rfl⟩
 rw[←l7]
 have qy:=hide l7
 clear l7
 have hmm:∀w,(Instr.makeMap 76 none).run Tryz.prog w=.ok (.map (some w.heap.size)) (w.alloc (.map #[] 0)):=fun w=>by kernel_rfl
 obtain⟨w3,hw3⟩:∃z,z=(((w.alloc (.map #[] 0)).alloc (.cells #[.pointer (some ⟨nb,no,none⟩),.slice none 0 0,.map (some w.heap.size)] 78)).alloc (.cells #[.pointer none,.string ⟨#[]⟩,.bool false,.int .i64 0,.map none,.int .i64 0,.slice none 0 0] 112)):=⟨_,rfl⟩
 have hb1:Below w.heap.size w (w.alloc (.map #[] 0)):=(Below.refl _ _).alloc (Nat.le_refl _) _
 have hb2:Below w.heap.size w ((w.alloc (.map #[] 0)).alloc (.cells #[.pointer (some ⟨nb,no,none⟩),.slice none 0 0,.map (some w.heap.size)] 78)):=hb1.alloc hb1.size _
 have hb3:Below w.heap.size w w3:=by rw[hw3];exact hb2.alloc hb2.size _
 obtain⟨sb,hsb⟩:∃z,z=w.heap.size+1:=⟨_,rfl⟩
 obtain⟨bb,hbb⟩:∃z,z=w.heap.size+1+1:=⟨_,rfl⟩
 have hk2:dh w3 sb 78 #[.pointer (some ⟨nb,no,none⟩),.slice none 0 0,.map (some w.heap.size)]:=by
  have h9:=(jd (w.alloc (.map #[] 0)) #[.pointer (some ⟨nb,no,none⟩),.slice none 0 0,.map (some w.heap.size)] 78)
  have h8:=h9.below ((Below.refl _ _).alloc (Nat.le_refl _) (.cells #[.pointer none,.string ⟨#[]⟩,.bool false,.int .i64 0,.map none,.int .i64 0,.slice none 0 0] 112)) h9.lt
  rw[hw3,hsb]
  simpa using h8
 have hk3:dh w3 bb 112 #[.pointer none,.string ⟨#[]⟩,.bool false,.int .i64 0,.map none,.int .i64 0,.slice none 0 0]:=by
  have h9:=jd ((w.alloc (.map #[] 0)).alloc (.cells #[.pointer (some ⟨nb,no,none⟩),.slice none 0 0,.map (some w.heap.size)] 78)) #[.pointer none,.string ⟨#[]⟩,.bool false,.int .i64 0,.map none,.int .i64 0,.slice none 0 0] 112
  rw[hw3,hbb]
  simpa using h9
 have hkm:Dh Tryz.prog 9 (.pointer none) w3 w.heap.size 0 (fun _=>.pointer none):=by
  have h9:Dh Tryz.prog 9 (.pointer none) (w.alloc (.map #[] 0)) w.heap.size 0 (fun _=>.pointer none):=Dh.made w
  have h8:=h9.below ((Below.refl _ _).alloc (Nat.le_refl _) (.cells #[.pointer (some ⟨nb,no,none⟩),.slice none 0 0,.map (some w.heap.size)] 78))
  rw[hw3]
  exact h8.below ((Below.refl _ _).alloc (Nat.le_refl _) _)
 have hsc:Sc w w3 (.pointer (some ⟨nb,no,none⟩)) .nilFunc [] [] sb w.heap.size (.slice none 0 0) [] (C00 bb) (fun _=>none) 0 :=
  ⟨hb3,an1 w3 w.heap.size bb (fun x=>x=w.heap.size) hk3 (by omega) (fun x hx=>by rw[hx];exact hkm.lt),hk2,iw.nil _ _,rfl,(fun k hk=>absurd hk (Nat.not_lt_zero _)),(fun j k hj=>absurd hj (Nat.not_lt_zero _)),(fun k hk=>absurd hk (Nat.not_lt_zero _)),⟨0,_,Nat.le_refl _,hkm,fun s=>by unfold He jc;rfl⟩,by omega,Nat.le_refl _⟩
 have cc:∀(w':World) (j:Nat) (u:Value),Below w.heap.size w w'->w.cell? ⟨nb,j,none⟩=some u->w'.cell? ⟨nb,j,none⟩=some u:=fun w' j u vg hu=>(vg.cell (p:=⟨nb,j,none⟩) hbl).trans hu
 have m1:=cc _ _ _ hb3 k1
 rw[hw3] at m1
 have HCC:Hid (∀(w':World),Below w.heap.size w w'->w'.cell? ⟨nb,no+1,none⟩=some (.slice i1 x.ins.length n1)∧w'.cell? ⟨nb,no+2,none⟩=some (.slice i2 x.outs.length n2)∧w'.cell? ⟨nb,no+3,none⟩=some (.slice i3 x.vars.length n3)):=fun w' vg=>⟨cc _ _ _ vg k1,cc _ _ _ vg k2,cc _ _ _ vg k3⟩
 have Nb:=hide hsc
 have HW3:=hide hw3
 have Nk:=hide hsb
 have V4:=hide hbb
 clear hb1 hb2 hb3 hk2 hk3 hkm hsc cc k1 k2 k3 hw3 hsb hbb
 go_enter Tryz.func28,Tryz.ntmps28
 go_wp2_with fail
 rw[←uh HW3,←uh V4,←uh Nk]
 have hG0:([]:List Int).length=([]:List gy).length:=rfl
 have HI:Hid (x.ins.length<=10000∧x.outs.length<=10000∧x.vars.length<=10000∧x.ins.length+x.outs.length+x.vars.length<=10000):=by
  have h1:=uh Gg
  have h2:=uh HVL
  exact hide ⟨by omega,by omega,by omega,by omega⟩
 have HCI:Hid ((∀v,v∈x.ins->v.clock.length<=1000)∧(∀v,v∈x.outs->v.clock.length<=1000)∧∀v,v∈x.vars->v.clock.length<=1000):=by
  have h1:=uh Gv
  unfold aj at h1
  exact hide ⟨fun v hv=>h1 v (by simp[hv]),fun v hv=>h1 v (by simp[hv]),fun v hv=>h1 v (by simp[hv])⟩
 refine(Y7 w w3 _ [] [] sb w.heap.size _ _ (C00 bb) _ 0 (uh Nb) rfl bb (ajg bb) x.ins _ (uh H1) (-2) (uh HCI).1 (uh HI).1 (Nat.zero_le _) (Nat.zero_le _)).mono ?_
 rintro e w4 ⟨rfl,ov4,D4,C4,L4,N4,hs4,hn4,hc4⟩
 rw[List.nil_append,List.nil_append] at hs4
 have m2:=(uh HCC w4 hs4.old).2.1
 have Rw:=hide hs4
 have HN4:=hide hn4
 have HB4:=hide (hc4 _ _ (ajg bb))
 clear hs4 hn4 hc4 m1
 go_wp2_with fail
 refine(Y7 w w4 _ x.ins (List.replicate x.ins.length (-2)) sb w.heap.size _ _ C4 _ N4 (uh Rw) (List.length_replicate) bb (uh HB4) x.outs _ (uh H2) (-1) (uh HCI).2.1 (uh HI).2.1 (by have:=(uh HI).1;omega) (by have:=uh HN4;have:=(uh HI).1;omega)).mono ?_
 rintro e w5 ⟨rfl,ov5,D5,C5,L5,N5,hs5,I7,hc5⟩
 have m3:=(uh HCC w5 hs5.old).2.2
 have HS5:=hide hs5
 have HN5:=hide I7
 have Qu:=hide (hc5 _ _ (uh HB4))
 clear hs5 I7 hc5 m2
 go_wp2_with fail
 refine(Y7 w w5 _ (x.ins++x.outs) (List.replicate x.ins.length (-2)++List.replicate x.outs.length (-1)) sb w.heap.size _ _ C5 _ N5 (uh HS5) (by simp) bb (uh Qu) x.vars _ (uh H3) (-1) (uh HCI).2.2 (uh HI).2.2.1 (by have:=(uh HI).2.2.2;rw[List.length_append];omega) (by have:=uh HN4;have:=uh HN5;have:=(uh HI).2.2.2;omega)).mono ?_
 rintro e w6 ⟨rfl,ov6,D6,C6,L6,N6,hs6,hn6,hc6⟩
 have gq:Hid (PO (.returned (.pointer (some ⟨sb,0,none⟩))) w6):=by
  rw[uh qy]
  have e1:x.ins++x.outs++x.vars=aj x:=rfl
  have e2:List.replicate x.ins.length (-2:Int)++List.replicate x.outs.length (-1)++List.replicate x.vars.length (-1)=qx x:=by
   unfold qx
   rw[List.append_assoc,List.replicate_append_replicate]
  rw[e1,e2] at hs6
  refine hide ⟨sb,_,ov6,D6,C6,L6,N6,rfl,hs6,?_,bb,hc6 _ _ (uh Qu)⟩
  have h1:=uh HN4
  have h2:=uh HN5
  have h3:=uh Gg
  rw[h3]
  omega
 clear hs6 hn6 hc6 m3
 go_wp2
 first
  | exact uh gq
  | (go_ret;exact uh gq)
def firstTo (p:Nat->Bool):Nat->Option Nat
 | 0=>none
 | n+1=>match firstTo p n with
  | some k=>some k
  | none=>if p n then some n else none
theorem zk {p:Nat->Bool} {n:Nat} (h:∀j,j<n->p j=false):firstTo p n=none:=by
 induction n with
 | zero=>rfl
 | succ n ih =>
  unfold firstTo
  rw[ih (fun j hj=>h j (by omega))]
  simp[h n (by omega)]
theorem Fe {p:Nat->Bool} {n k:Nat} (hk:k<n) (hp:p k=true) (h:∀j,j<k->p j=false):firstTo p n=some k:=by
 induction n with
 | zero=>omega
 | succ n ih =>
  unfold firstTo
  by_cases e:k=n
  ·subst e
   rw[zk h]
   simp[hp]
  ·rw[ih (by omega)]
theorem first_some {p:Nat->Bool} {n k:Nat} (hk:k<n) (hp:p k=true):(firstTo p n).isSome=true:=by
 induction n with
 | zero=>omega
 | succ n ih =>
  unfold firstTo
  by_cases e:k=n
  ·subst e
   cases firstTo p k with
   | none=>simp[hp]
   | some j=>rfl
  ·have:=ih (by omega)
   cases hq:firstTo p n with
   | none=>rw[hq] at this;cases this
   | some j=>rfl
def I4 (vs:List gy) (k:Nat):Bool:=match vs[k]? with|some v=>decide (uq vs v.name<(k:Int))|none=>false
def Bj (vs:List gy) (ks:List cu) (j:Nat):Bool:=match ks[j]? with|some c=>decide (uq vs c.name<0)||((jg vs c.name).type != 2)||!qj (jv vs c.name) (ks.take j)|none=>false
def Dy (vs:List gy) (k:Nat):Bool:=match vs[k]? with|some v=>(firstTo (Bj vs v.clock) v.clock.length).isSome|none=>false
def wu (eqs:List qg):Nat->List ByteArray
 | 0=>[]
 | k+1=>wu eqs k++(match eqs[k]? with|some e=>e.lhs|none=>[])
def Oz (vs:List gy) (nI:Nat) (seen lhs:List ByteArray) (m:Nat):Bool:=match lhs[m]? with|some x=>decide (uq vs x<(nI:Int))||inB (seen++lhs.take m) x|none=>false
def wo (eqs:List qg):Nat->Nat
 | 0=>0
 | k+1=>wo eqs k+(match eqs[k]? with|some e=>yc e|none=>0)
theorem apr (vs:List gy) (k:Nat) (hk:k<vs.length):I4 vs k=decide (uq vs vs[k].name<(k:Int)):=by unfold I4;rw[List.getElem?_eq_getElem hk]
theorem afa (vs:List gy) (ks:List cu) (j:Nat) (hj:j<ks.length):Bj vs ks j=(decide (uq vs ks[j].name<0)||((jg vs ks[j].name).type != 2)||!qj (jv vs ks[j].name) (ks.take j)):=by unfold Bj;rw[List.getElem?_eq_getElem hj]
theorem aic (vs:List gy) (k:Nat) (hk:k<vs.length):Dy vs k=(firstTo (Bj vs vs[k].clock) vs[k].clock.length).isSome:=by unfold Dy;rw[List.getElem?_eq_getElem hk]
theorem aif (vs:List gy) (nI:Nat) (seen lhs:List ByteArray) (m:Nat) (hm:m<lhs.length):Oz vs nI seen lhs m=(decide (uq vs lhs[m]<(nI:Int))||inB (seen++lhs.take m) lhs[m]):=by unfold Oz;rw[List.getElem?_eq_getElem hm]
end Go.Proofs.YtflcnhfakcgkeaaGreat
