import Derived.Deep.QuietTactic
import Derived.BigQuiet
import Derived.Test.YtlcgnbcgmljpaaaGreatFS4
namespace Go.Proofs.YtlcgnbcgmljpaaaGreat
open Go.RowKit
set_option linter.unusedSimpArgs false
set_option linter.unusedVariables false
theorem anm {w:World} {B:Nat} {v:Value} {cs:List (Raw 6)} (h:dw zh w B v cs) (i:Nat) (hi:i<cs.length):∃g cap,v=.slice (some ⟨g,0,none⟩) cs.length cap∧(∀j (hj:j<cs.length) k u,cs[j].1[k]?=some u->w.cell? ⟨g,j*6+k,none⟩=some u):=by
 rcases h.O8 with ⟨_,_,hh1,hh2⟩|⟨g',cap',hh1,hh2⟩
 ·rw[hh2] at hi;exact absurd hi (Nat.not_lt_zero _)
 ·refine⟨g',cap',hh1,fun j hj k u hu=>?_⟩
  obtain⟨hk,hku⟩:=List.getElem?_eq_some_iff.1 hu
  have h9:=(hh2 j hj k hk).1
  have e9:(zh.f cs[j])=cs[j].1:=rfl
  simp only[e9] at h9
  rw[hku] at h9
  exact h9
theorem Uh {sz:Nat}:Fj (@Qs sz):=fun _ _ _ _ _ _ h=>h
theorem agp {B:Nat} {a w:World} (h:Below B a w) (n:Nat):Below B a (w.drewN n):=⟨h.os,h.tape,h.output,h.size,h.block⟩
def av5 (t:BF) (w:World) (v:Value) (e:Ending) (w':World):Prop:=(stepT t=none∧e=.returned (.tuple #[v,.bool false])∧Below w.heap.size w w')∨∃t' v',stepT t=some t'∧e=.returned (.tuple #[v',.bool true])∧Ad zh Aa w.heap.size w' v' t'.flat∧Below w.heap.size w w'
set_option maxRecDepth 20000 in
set_option maxHeartbeats 8000000 in
theorem ahg (t:BF) (ht:t.wf) (hl:t.flat.length<=1000000) (v:Value) (base:Nat) (w:World) (h:Ad zh Aa base w v t.flat):Calls Tryz.prog 14 #[v] w (av5 t w v):=by
 obtain⟨css,subs,hov,hall⟩:=h
 have hal:=hall.len
 obtain⟨bs,hrt⟩:=Ad.rowT ⟨css,subs,hov,hall⟩ (show t.flat.length*104<=_ by omega)
 have hsl:bf 6 104 Ec 0 w v t.flat:=hrt.sl rfl (fun _=>rfl) (fun cs x bs h=>alv h)
 have hrs:bf 6 104 Qs 0 w v css:=hov.at (fun c _=>rfl) (show css.length*104<=_ by omega)
 obtain⟨a,cap,hv⟩:=hsl.shape
 subst hv
 obtain⟨PO,Af⟩:∃PO:Ending->World->Prop,PO=av5 t w (.slice a t.flat.length cap):=⟨_,rfl⟩
 rw[←Af]
 have Fh:=hide Af
 have afp:=hide hall
 have HOV:=hide hov
 have HSL:=hide hsl
 have HRS:=hide hrs
 have HT:=hide ht
 have HAL:=hide hal
 have a4a:=hide (fun i hi=>azm t ht i hi)
 have hcap:t.flat.length<=cap:=by
  obtain⟨_,_,X0,⟨_,h2⟩,_⟩:=hsl
  simp only[Value.slice.injEq] at X0
  obtain⟨_,_,rfl⟩:=X0
  exact h2
 clear Af hall hal hrt hov hsl hrs ht
 obtain⟨n,hn⟩:∃z,z=t.flat.length:=⟨_,rfl⟩
 have HN:=hide hn
 rw[←hn] at hcap hl
 rw[←hn]
 clear hn
 go_enter Tryz.func14,Tryz.ntmps14
 go_wp2
 go_loopg [13] n (fun gh ix wr=>∃(i:Nat),i<=n∧gh=n-i∧ix=.int .i64 i∧Hid (∀j,j<i->I7 t.flat j=false)∧Hid (Below w.heap.size w wr))
 case atStart=>exact⟨0,Nat.zero_le _,by omega,rfl,hide (fun j hj=>absurd hj (Nat.not_lt_zero _)),hide (Below.refl _ _)⟩
 case round =>
  obtain⟨i,hi,hg,rfl,uw,HB⟩:=hrel
  have HG:=hide hg
  clear hg
  by_cases hlt:i<n
  ·have hlt':i<t.flat.length:=by rw[←uh HN];exact hlt
   have hbw:=uh HB
   have hic:i<css.length:=by rw[(uh HAL).1];exact hlt'
   obtain⟨g,atc,yx,hcells⟩:=anm ((uh HOV).below hbw) i hic
   simp only[Value.slice.injEq] at yx
   obtain⟨rfl,hv8,rfl⟩:=yx
   clear hv8
   have hTi:=(uh afp).get i hic hlt' (by rw[(uh HAL).2];exact hlt')
   obtain⟨k1,k2⟩:=uh a4a i hlt'
   have Eb:Hid (I7 t.flat i=false->∀j,j<i+1->I7 t.flat j=false):=hide (fun h9 j hj=>by
    by_cases c:j<i
    ·exact uh uw j c
    ·have:j=i:=by omega
     rw[this];exact h9)
   have azb:(i:Int)<(n:Int):=by omega
   have HPT:=hide (fun W (hW:Below w.heap.size w W)=>Qu t.flat _ i W ((uh HSL).stays xu hW) (by omega))
   generalize t.flat[i]=s at *
   obtain⟨o3,o4,o5,e1,e2,e3,hcs,hj1,hj2,hj3,r3,r4,r5,hj4⟩:=hTi
   obtain⟨a3,d3,hq3⟩:=r3.1.slice
   obtain⟨a4,d4,hq4⟩:=r4.1.slice
   obtain⟨cs5,s5,r5o,hj5⟩:=r5
   obtain⟨a5,d5,hq5⟩:=r5o.slice
   obtain⟨n3,hn3⟩:∃z,z=s.outs.length:=⟨_,rfl⟩
   obtain⟨n4,hn4⟩:∃z,z=s.code.length:=⟨_,rfl⟩
   obtain⟨n5,Eh⟩:∃z,z=cs5.length:=⟨_,rfl⟩
   rw[←hn3] at hq3
   rw[←hn4] at hq4
   rw[←Eh] at hq5
   subst hq3 hq4 hq5
   have y0:=hcells i hic 0 (.int .i64 s.kind) (by rw[hcs];rfl)
   have y1:=hcells i hic 1 (.string s.name) (by rw[hcs];rfl)
   have y2:=hcells i hic 2 (.int .i64 s.at_) (by rw[hcs];rfl)
   have y3:=hcells i hic 3 (.slice a3 n3 d3) (by rw[hcs];rfl)
   have y4:=hcells i hic 4 (.slice a4 n4 d4) (by rw[hcs];rfl)
   have y5:=hcells i hic 5 (.slice a5 n5 d5) (by rw[hcs];rfl)
   simp only[Nat.add_zero] at y0
   have Y5:=hide hcells
   have K1:=hide k1
   have K2:=hide k2
   clear hcells hcs r3 r4 r5o hj1 hj2 hj3 hj4 hj5 hn3 hn4 Eh k1 k2 hlt' hic hbw
   obtain⟨wB,hwB⟩:∃z,z=wr.alloc (.cells #[.int .i64 s.kind,.string s.name,.int .i64 s.at_,.slice a3 n3 d3,.slice a4 n4 d4,.slice a5 n5 d5] 60):=⟨_,rfl⟩
   have Rk:Hid (Below wr.heap.size wr wB):=hide (by rw[hwB];exact(Below.refl _ _).alloc (Nat.le_refl _) _)
   have HBK:Hid (au wB wr.heap.size 60 #[.int .i64 s.kind,.string s.name,.int .i64 s.at_,.slice a3 n3 d3,.slice a4 n4 d4,.slice a5 n5 d5]):=hide (by rw[hwB];exact Bq rfl)
   have HWB:Hid (Below w.heap.size w wB):=hide ((uh HB).trans ((uh Rk).mono (uh HB).size))
   have HWQ:=hide hwB
   clear hwB
   by_cases hk:s.kind=4
   ·obtain⟨o,e,hpt,hio,hoe,hen,hE1,hE2⟩:=uh K2 hk
    have hkq:(s.kind != 4)=false:=by simp[hk]
    have HP1:=hide (uh HPT wB (uh HWB))
    rw[hpt,←uh HN] at HP1
    rw[←uh HN] at hen hE1
    have HE1:=hide hE1
    have HE2:=hide hE2
    have HPE:=hide hpt
    clear hpt hE1 hE2 HPT K1 K2 hk
    go_wp2_with fail
    rw[←uh HWQ]
    refine(uh HP1).mono ?_
    rintro e' w' ⟨rfl,hw'⟩
    subst hw'
    have x1:=(uh HBK).cell (i:=1) (v:=.string s.name) rfl
    have hwr:IntKind.i64.wrap ((e:Int)+1)=(e:Int)+1:=by rw[IntKind.wrap_i64];omega
    clear y0 y1 y2 y3 y4 y5 HP1 HWQ
    by_cases hend:e+1=n
    ·have HN1:=hide (uh Eb (uh HE1 hend))
     have q1:decide ((n:Int)<=(e:Int)+1)=true:=decide_eq_true (by omega)
     have q2:(n:Int)<=(e:Int)+1:=by omega
     have HDN:=hide (fun k=>agp (uh HWB) k)
     clear Eb HE2 hend HBK
     go_wp2_with fail
     go_quiet ((fail))
     all_goals
      go_wp2
      go_roundg (n-(i+1))
      case measure=>have:=uh HG;omega
      case rel=>exact⟨i+1,by omega,rfl,by go_num,HN1,hide (uh HDN _)⟩
    ·have he1:e+1<n:=by omega
     have he1':e+1<t.flat.length:=by rw[←uh HN];exact he1
     obtain⟨m1,m2,m3⟩:=uh HE2 he1'
     have hec:e+1<css.length:=by rw[(uh HAL).1];exact he1'
     have hTe:=(uh afp).get (e+1) hec he1' (by rw[(uh HAL).2];exact he1')
     have Yw:=hide (fun hb=>awz (uh HT) (show i<t.flat.length by rw[←uh HN];exact hlt) hb (uh uw))
     have ano:=hide (fun W (hW:Below w.heap.size w W)=>Qu t.flat _ (e+1) W ((uh HSL).stays xu hW) (Nat.le_of_lt he1'))
     obtain⟨o3,o4,o5,l1,l2,l3,hcs,hrest⟩:=hTe
     have azn:g<wr.heap.size:=(World.ownsRow.lt ((uh HOV).below (uh HB)) g rfl).2
     have u0:w'.cell? ⟨g,(e+1)*6,none⟩=some (.int .i64 (t.flat[e+1]).kind):=by
      rw[(uh Rk).cell (p:=⟨g,_,none⟩) azn]
      exact uh Y5 (e+1) hec 0 _ (by rw[hcs];rfl)
     have u1:w'.cell? ⟨g,(e+1)*6+1,none⟩=some (.string (t.flat[e+1]).name):=by
      rw[(uh Rk).cell (p:=⟨g,_,none⟩) azn]
      exact uh Y5 (e+1) hec 1 _ (by rw[hcs];rfl)
     have M1:=hide m1
     have M2:=hide m2
     have M3:=hide m3
     generalize t.flat[e+1]=s' at M1 M2 M3 u0 u1
     have q1:decide ((n:Int)<=(e:Int)+1)=false:=decide_eq_false (by omega)
     have q2:¬(n:Int)<=(e:Int)+1:=by omega
     have q3:(e:Int)+1<(n:Int):=by omega
     have HDN:=hide (fun k=>agp (uh HWB) k)
     clear hrest hcs hec he1' m1 m2 m3 hend HE1 HE2 HBK Y5 HB Rk
     by_cases hk2:s'.kind=4
     ·have q4:(s'.kind != 4)=false:=by simp[hk2]
      have Ny:=hide hk2
      clear hk2
      by_cases hnm:s'.name=s.name
      ·have V4:=hide hnm
       rw[hnm] at u1
       clear hnm
       obtain⟨hfb,o2,e2,azo,ho2,he2,a4b,hfr⟩:=uh M3 (uh Ny) (uh V4)
       have HP2:=hide (fun k=>uh ano (w'.drewN k) (uh HDN k))
       rw[azo,←uh HN,show ((e+1:Nat):Int)=(e:Int)+1 from by omega] at HP2
       rw[←uh HN] at a4b
       have HFB:=hide hfb
       have HFR:=hide hfr
       clear azo hfb hfr ano M1 M2 M3
       go_wp2_with fail
       go_quiet ((fail))
       go_wp2_with fail
       refine(uh HP2 _).mono ?_
       rintro e9 W ⟨rfl,hW⟩
       have Bj:Hid (Below w.heap.size w W):=hide (by rw[hW];exact uh HDN _)
       have wr2:IntKind.i64.wrap ((e:Int)+2)=(e:Int)+2:=by rw[IntKind.wrap_i64];omega
       have wr3:IntKind.i64.wrap ((o2:Int)+1)=(o2:Int)+1:=by rw[IntKind.wrap_i64];omega
       clear hW HP2 u0 u1 x1 HDN Eb V4 Ny HWB q1 q2 q4 hkq
       have hcl:css.length=n:=by rw[(uh HAL).1,←uh HN]
       obtain⟨A1,hA1⟩:∃z,z=ug css 0 o:=⟨_,rfl⟩
       have hl1:A1.length=o-0:=by rw[hA1];exact Gh css 0 o (by omega) (by omega)
       have Bd:Hid (∀W',Below w.heap.size w W'->bf 6 104 Qs 0 W' (.slice (some ⟨g,0,none⟩) o cap) A1):=hide (fun W' hW'=>by
        have h9:=((uh HRS).sub 0 o (by omega) (by omega)).stays Uh hW'
        rw[←hA1] at h9
        simpa using h9)
       obtain⟨A2,hA2⟩:∃z,z=ug css (e+2) o2:=⟨_,rfl⟩
       have hl2:A2.length=o2-(e+2):=by rw[hA2];exact Gh css (e+2) o2 (by omega) (by omega)
       have HS2:Hid (∀W',Below w.heap.size w W'->bf 6 104 Qs 0 W' (.slice (some ⟨g,(e+2)*6,none⟩) (o2-(e+2)) (cap-(e+2))) A2):=hide (fun W' hW'=>by
        have h9:=((uh HRS).sub (e+2) o2 (by omega) (by omega)).stays Uh hW'
        rw[←hA2] at h9
        simpa using h9)
       obtain⟨A3,hA3⟩:∃z,z=ug css o e:=⟨_,rfl⟩
       have hl3:A3.length=e-o:=by rw[hA3];exact Gh css o e (by omega) (by omega)
       have Ef:Hid (∀W',Below w.heap.size w W'->bf 6 104 Qs 0 W' (.slice (some ⟨g,o*6,none⟩) (e-o) (cap-o)) A3):=hide (fun W' hW'=>by
        have h9:=((uh HRS).sub o e (by omega) (by omega)).stays Uh hW'
        rw[←hA3] at h9
        simpa using h9)
       obtain⟨A4,hA4⟩:∃z,z=ug css (o2+1) e2:=⟨_,rfl⟩
       have hl4:A4.length=e2-(o2+1):=by rw[hA4];exact Gh css (o2+1) e2 (by omega) (by omega)
       have Es:Hid (∀W',Below w.heap.size w W'->bf 6 104 Qs 0 W' (.slice (some ⟨g,(o2+1)*6,none⟩) (e2-(o2+1)) (cap-(o2+1))) A4):=hide (fun W' hW'=>by
        have h9:=((uh HRS).sub (o2+1) e2 (by omega) (by omega)).stays Uh hW'
        rw[←hA4] at h9
        simpa using h9)
       obtain⟨A5,hA5⟩:∃z,z=ug css e2 n:=⟨_,rfl⟩
       have hl5:A5.length=n-e2:=by rw[hA5];exact Gh css e2 n (by omega) (by omega)
       have HS5:Hid (∀W',Below w.heap.size w W'->bf 6 104 Qs 0 W' (.slice (some ⟨g,e2*6,none⟩) (n-e2) (cap-e2)) A5):=hide (fun W' hW'=>by
        have h9:=((uh HRS).sub e2 n (by omega) (by omega)).stays Uh hW'
        rw[←hA5] at h9
        simpa using h9)
       have HLE:=hide (And.intro hl1 (And.intro hl2 (And.intro hl3 (And.intro hl4 hl5))))
       have HAE:Hid (A1++A2++A3++A4++A5=Y6 o e o2 e2 css):=hide (by rw[hA1,hA2,hA3,hA4,hA5];unfold Y6;rw[hcl])
       clear hl1 hl2 hl3 hl4 hl5 hA1 hA2 hA3 hA4 hA5 hcl
       have hWA:Below w.heap.size w (W.alloc (.cells #[] 60)):=(uh Bj).alloc (uh Bj).size _
       have HO0:Hid (dw zh (W.alloc (.cells #[] 60)) w.heap.size (.slice (some ⟨W.heap.size,0,none⟩) 0 0) []):=hide (Jq zh W w.heap.size (uh Bj).size)
       have HX0:=hide hWA
       have HQ1:=hide (uh Bd _ hWA)
       have afq:Hid ((([]:List (Raw 6)).length+A1.length)*104<=140737488355328):=hide (by have h9:=uh HLE;simp;omega)
       clear hWA
       go_wp2_with (at_builtin;go_must (refine qw zh (R:=Qs) (fun _ _ _ h=>h) _ rfl _ _ rfl w.heap.size W.heap.size 0 [] rfl (uh HO0) _ rfl A1 (uh HQ1) (uh afq) (uh HX0).size ?_))
       intro g1 c1 W1 ho hg
       have mg:Hid (Below w.heap.size w W1):=hide ((uh HO0).grown (uh HX0) hg (uh HX0).size (Nat.le_refl _))
       try simp only[List.length_nil,Nat.zero_add,List.nil_append] at ho ⊢
       have HO1:=hide ho
       clear ho hg HO0 HX0 HQ1 afq
       have Po:=hide (uh HS2 _ (uh mg))
       have azp:Hid ((A1.length+A2.length)*104<=140737488355328):=hide (by have h9:=uh HLE;omega)
       go_wp2_with (at_builtin;go_must (refine qw zh (R:=Qs) (fun _ _ _ h=>h) _ rfl _ _ rfl w.heap.size g1 c1 A1 rfl (uh HO1) _ rfl A2 (uh Po) (uh azp) (uh mg).size ?_))
       intro g2 c2 W2 ho hg
       have qp:Hid (Below w.heap.size w W2):=hide ((uh HO1).grown (uh mg) hg (uh mg).size (Nat.le_refl _))
       obtain⟨L2,hL2⟩:∃z,z=A1++A2:=⟨_,rfl⟩
       rw[←List.length_append,←hL2] at ho ⊢
       have I9:Hid (L2.length=A1.length+A2.length):=hide (by rw[hL2,List.length_append])
       have HLA:Hid (L2=A1++A2):=hide hL2
       have Ee:=hide ho
       clear ho hg hL2 Po azp HO1 mg
       have HQ3:=hide (uh Ef _ (uh qp))
       have Zx:Hid ((L2.length+A3.length)*104<=140737488355328):=hide (by have h9:=uh HLE;have h8:=uh I9;omega)
       go_wp2_with (at_builtin;go_must (refine qw zh (R:=Qs) (fun _ _ _ h=>h) _ rfl _ _ rfl w.heap.size g2 c2 L2 rfl (uh Ee) _ rfl A3 (uh HQ3) (uh Zx) (uh qp).size ?_))
       intro g3 c3 W3 ho hg
       have HX3:Hid (Below w.heap.size w W3):=hide ((uh Ee).grown (uh qp) hg (uh qp).size (Nat.le_refl _))
       obtain⟨L3,hL3⟩:∃z,z=L2++A3:=⟨_,rfl⟩
       rw[←List.length_append,←hL3] at ho ⊢
       replace I9:Hid (L3.length=A1.length+A2.length+A3.length):=hide (by rw[hL3,List.length_append,uh I9])
       replace HLA:Hid (L3=A1++A2++A3):=hide (by rw[hL3,uh HLA])
       have Y4:=hide ho
       clear ho hg hL3 HQ3 Zx Ee qp
       have HQ4:=hide (uh Es _ (uh HX3))
       have anp:Hid ((L3.length+A4.length)*104<=140737488355328):=hide (by have h9:=uh HLE;have h8:=uh I9;omega)
       go_wp2_with (at_builtin;go_must (refine qw zh (R:=Qs) (fun _ _ _ h=>h) _ rfl _ _ rfl w.heap.size g3 c3 L3 rfl (uh Y4) _ rfl A4 (uh HQ4) (uh anp) (uh HX3).size ?_))
       intro g4 c4 W4 ho hg
       have yg:Hid (Below w.heap.size w W4):=hide ((uh Y4).grown (uh HX3) hg (uh HX3).size (Nat.le_refl _))
       obtain⟨L4,hL4⟩:∃z,z=L3++A4:=⟨_,rfl⟩
       rw[←List.length_append,←hL4] at ho ⊢
       replace I9:Hid (L4.length=A1.length+A2.length+A3.length+A4.length):=hide (by rw[hL4,List.length_append,uh I9])
       replace HLA:Hid (L4=A1++A2++A3++A4):=hide (by rw[hL4,uh HLA])
       have HO4:=hide ho
       clear ho hg hL4 HQ4 anp Y4 HX3
       have HQ5:=hide (uh HS5 _ (uh yg))
       have Zy:Hid ((L4.length+A5.length)*104<=140737488355328):=hide (by have h9:=uh HLE;have h8:=uh I9;omega)
       go_wp2_with (at_builtin;go_must (refine qw zh (R:=Qs) (fun _ _ _ h=>h) _ rfl _ _ rfl w.heap.size g4 c4 L4 rfl (uh HO4) _ rfl A5 (uh HQ5) (uh Zy) (uh yg).size ?_))
       intro g5 c5 W5 ho hg
       have Ky:Hid (Below w.heap.size w W5):=hide ((uh HO4).grown (uh yg) hg (uh yg).size (Nat.le_refl _))
       obtain⟨L5,hL5⟩:∃z,z=L4++A5:=⟨_,rfl⟩
       rw[←List.length_append,←hL5] at ho ⊢
       replace I9:Hid (L5.length=A1.length+A2.length+A3.length+A4.length+A5.length):=hide (by rw[hL5,List.length_append,uh I9])
       replace HLA:Hid (L5=A1++A2++A3++A4++A5):=hide (by rw[hL5,uh HLA])
       have Nw:=hide ho
       clear ho hg hL5 HQ5 Zy HO4 yg
       have zu:Hid (PO (.returned (.tuple #[.slice (some ⟨g5,0,none⟩) L5.length c5,.bool true])) W5):=by
        obtain⟨t',ht1,ht2⟩:=uh Yw (uh HFB)
        have e5:L5=Y6 o e o2 e2 css:=(uh HLA).trans (uh HAE)
        rw[uh Fh]
        refine hide (Or.inr ⟨t',_,ht1,rfl,⟨L5,Y6 o e o2 e2 subs,uh Nw,?_⟩,uh Ky⟩)
        rw[ht2,uh HFR,e5]
        exact((uh afp).Y6 o e o2 e2).mono (fun c x s _ _ _ h9=>I4 _ _ _ _ _ h9 ((Rz _ _ _ _ h9).below (uh Ky)))
       go_wp2
       exact uh zu
      ·have HN1:=hide (uh Eb (uh M2 hnm))
       have hn3:(s'.name.toList == s.name.toList)=false:=by rw[Ak];exact decide_eq_false hnm
       have hn2:¬s'.name.toList=s.name.toList:=by rw[beq_eq_false_iff_ne] at hn3;exact hn3
       have hn4:(s'.name.toList != s.name.toList)=true:=by rw[bne_iff_ne];exact hn2
       clear Eb M1 M2 M3 ano Yw
       go_wp2_with fail
       go_quiet ((fail))
       all_goals
        go_wp2
        go_roundg (n-(i+1))
        case measure=>have:=uh HG;omega
        case rel=>exact⟨i+1,by omega,rfl,by go_num,HN1,hide (uh HDN _)⟩
     ·have HN1:=hide (uh Eb (uh M1 hk2))
      have q4:(s'.kind != 4)=true:=by simpa using hk2
      clear Eb M1 M2 M3 ano Yw hk2
      go_wp2_with fail
      go_quiet ((fail))
      all_goals
       go_wp2
       go_roundg (n-(i+1))
       case measure=>have:=uh HG;omega
       case rel=>exact⟨i+1,by omega,rfl,by go_num,HN1,hide (uh HDN _)⟩
   ·have HN1:=hide (uh Eb (uh K1 hk))
    have q0:(s.kind != 4)=true:=by simpa using hk
    clear HBK HPT Eb
    go_wp2
    rw[←uh HWQ]
    go_roundg (n-(i+1))
    case measure=>have:=uh HG;omega
    case rel=>exact⟨i+1,by omega,rfl,by go_num,HN1,HWB⟩
  ·have hqI:¬(i:Int)<(n:Int):=by omega
   have zu:Hid (PO (.returned (.tuple #[.slice a n cap,.bool false])) wr):=by
    have e9:=uh HN
    have e8:i=n:=by omega
    rw[uh Fh]
    refine hide (Or.inl ⟨aw0 (uh HT) (fun j hj=>uh uw j (by omega)),by rw[e9],uh HB⟩)
   go_wp2
   exact uh zu
end Go.Proofs.YtlcgnbcgmljpaaaGreat
