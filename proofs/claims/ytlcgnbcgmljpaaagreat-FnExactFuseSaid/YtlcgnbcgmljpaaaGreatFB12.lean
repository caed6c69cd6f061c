import Derived.Test.YtlcgnbcgmljpaaaGreatFB8
import Derived.Test.YtlcgnbcgmljpaaaGreatMI20
namespace Go.Proofs.YtlcgnbcgmljpaaaGreat
open Go.RowKit
set_option linter.unusedSimpArgs false
set_option linter.unusedVariables false
def aeh:Array Value:=#[.func (.func 30) #[] #[],.func (.func 31) #[] #[]]
set_option maxRecDepth 20000 in
set_option maxHeartbeats 4000000 in
theorem ar8 (w:World) (ks:List ak) (ts:List BF) (v:Value) (hsl:bf 7 160 ni 0 w v ks) (pb:Nat) (hpb:au w pb 29 aeh) (htl:ts.length=ks.length) (hts:∀i (h1:i<ts.length) (h2:i<ks.length),ts[i].wf∧ts[i].flat=ks[i].body∧ts[i].flat.length<=1000000) :
  Calls Tryz.prog 17 #[.agg #[v],.slice (some ⟨pb,0,none⟩) 2 2] w (MaP w.heap.size (List.zipWith Jf ks ts) w):=by
 obtain⟨a,c,hv⟩:=hsl.shape
 subst hv
 obtain⟨PO,Af⟩:∃PO:Ending->World->Prop,PO=MaP w.heap.size (List.zipWith Jf ks ts) w:=⟨_,rfl⟩
 rw[←Af]
 have Fh:=hide Af
 have HSL:=hide hsl
 have HPB:=hide hpb
 have HTS:=hide (And.intro htl hts)
 clear Af hsl hpb htl hts
 have HST:Hid (au ((w.alloc (.cells #[.slice a ks.length c] 28)).alloc (.cells #[.slice none 0 0] 28)) w.heap.size 28 #[.slice a ks.length c]∧au ((w.alloc (.cells #[.slice a ks.length c] 28)).alloc (.cells #[.slice none 0 0] 28)) (w.heap.size+1) 28 #[.slice none 0 0]∧Below w.heap.size w ((w.alloc (.cells #[.slice a ks.length c] 28)).alloc (.cells #[.slice none 0 0] 28))):=hide ⟨Ol (Bq rfl) _,Bq (by simp),((Below.refl _ _).alloc (Nat.le_refl _) _).alloc (by simp) _⟩
 go_enter Tryz.func17,Tryz.ntmps17
 go_wp2
 go_loopg [9] 2 (fun g i wr=>∃(q:Nat) (x:Option Addr) (y z:Nat),q<=2∧g=2-q∧i=.int .i64 q∧Hid (au wr w.heap.size 28 #[.slice x y z])∧Hid (au wr (w.heap.size+1) 28 #[.slice none 0 0])∧Hid (Below w.heap.size w wr)∧Hid ((q=0->Value.slice x y z=.slice a ks.length c)∧(q=1->∃bs,uf uj oh w.heap.size wr (.slice x y z) ks bs)∧(q=2->∃bs,uf uj oh w.heap.size wr (.slice x y z) (List.zipWith Jf ks ts) bs)))
 case atStart=>exact⟨0,a,ks.length,c,by omega,rfl,rfl,(uh HST).1,(uh HST).2.1,(uh HST).2.2,hide (And.intro (fun _=>rfl) (And.intro (fun h=>absurd h (by decide)) (fun h=>absurd h (by decide))))⟩
 case round =>
  obtain⟨q,x1,y1,z1,hq,hg,rfl,H1,H2,HB,HX⟩:=hrel
  have HG:=hide hg
  clear hg
  have m0:=(uh H1).cell (i:=0) (v:=.slice x1 y1 z1) rfl
  have hpw:=(uh HPB).below (uh HB) (uh HPB).lt
  have f0:=hpw.cell (i:=0) (v:=.func (.func 30) #[] #[]) rfl
  have f1:=hpw.cell (i:=1) (v:=.func (.func 31) #[] #[]) rfl
  clear hpw
  obtain rfl|rfl|rfl:q=0∨q=1∨q=2:=by omega
  ·have e0:=(uh HX).1 rfl
   have HC:Hid (Calls Tryz.prog 30 #[.agg #[.slice x1 y1 z1]] wr (fun e w1=>∃x y z,e=.returned (.agg #[.slice x y z])∧Hid (au w1 w.heap.size 28 #[.slice x1 y1 z1]∧au w1 (w.heap.size+1) 28 #[.slice none 0 0]∧Below w.heap.size w w1∧∃bs,uf uj oh w.heap.size w1 (.slice x y z) ks bs))):=by
    refine hide ((aff ks _ wr (by rw[e0];exact(uh HSL).stays jm (uh HB))).mono ?_)
    rintro e w1 ⟨v9,bs,rfl,hm,hb⟩
    obtain⟨x,y,hv⟩:=hm.slice
    subst hv
    exact⟨x,_,y,rfl,hide ⟨(uh H1).below hb (uh H1).lt,(uh H2).below hb (uh H2).lt,(uh HB).trans (hb.mono (uh HB).size),bs,hm.ar9 (uh HB).size⟩⟩
   clear HX e0
   go_wp2_with fail
   refine(uh HC).mono ?_
   rintro e w1 ⟨x,y,z,rfl,HM⟩
   have r0:=(uh HM).1.cell (i:=0) (v:=.slice x1 y1 z1) rfl
   have z0:=(uh HM).1.free 0
   have HN:Hid (au (w1.setCell ⟨w.heap.size,0,none⟩ (.slice x y z)) w.heap.size 28 #[.slice x y z]∧au (w1.setCell ⟨w.heap.size,0,none⟩ (.slice x y z)) (w.heap.size+1) 28 #[.slice none 0 0]∧Below w.heap.size w (w1.setCell ⟨w.heap.size,0,none⟩ (.slice x y z))∧∃bs,uf uj oh w.heap.size (w1.setCell ⟨w.heap.size,0,none⟩ (.slice x y z)) (.slice x y z) ks bs):=by
    obtain⟨h1,h2,h3,bs,hmr⟩:=uh HM
    exact hide ⟨h1.set 0 _,(Below.heap_setCell _ _ _ _ (by simp)).trans h2,h3.setCell (Nat.le_refl _) _,bs,hmr.frC (fun b hb=>Below.heap_setCell _ _ _ _ (fun e9=>au.Tn h1 (C9.typ zy hmr.rowT) (by decide) (by simp only at e9;first|(rw[←e9];exact hb)|(rw[e9];exact hb)))) (by simp[World.setCell])⟩
   clear HM HC
   go_wp2
   go_roundg 1
   case measure=>have:=uh HG;omega
   case rel=>exact⟨1,x,y,z,by omega,rfl,by go_num,(uh HN).1,(uh HN).2.1,(uh HN).2.2.1,hide (And.intro (fun h=>absurd h (by decide)) (And.intro (fun _=>(uh HN).2.2.2) (fun h=>absurd h (by decide))))⟩
  ·obtain⟨bs0,e0⟩:=(uh HX).2.1 rfl
   have HC:Hid (Calls Tryz.prog 31 #[.agg #[.slice x1 y1 z1]] wr (fun e w1=>∃x y z,e=.returned (.agg #[.slice x y z])∧Hid (au w1 w.heap.size 28 #[.slice x1 y1 z1]∧au w1 (w.heap.size+1) 28 #[.slice none 0 0]∧Below w.heap.size w w1∧∃bs,uf uj oh w.heap.size w1 (.slice x y z) (List.zipWith Jf ks ts) bs))):=by
    refine hide ((ahf w.heap.size ks ts _ bs0 wr e0 (uh HB).size (uh HTS).1 (uh HTS).2).mono ?_)
    rintro e w1 ⟨v9,bs,rfl,hm,hb⟩
    obtain⟨x,y,hv⟩:=hm.slice
    subst hv
    exact⟨x,_,y,rfl,hide ⟨(uh H1).below hb (uh H1).lt,(uh H2).below hb (uh H2).lt,(uh HB).trans (hb.mono (uh HB).size),bs,hm⟩⟩
   clear HX e0
   go_wp2_with fail
   refine(uh HC).mono ?_
   rintro e w1 ⟨x,y,z,rfl,HM⟩
   have r0:=(uh HM).1.cell (i:=0) (v:=.slice x1 y1 z1) rfl
   have z0:=(uh HM).1.free 0
   have HN:Hid (au (w1.setCell ⟨w.heap.size,0,none⟩ (.slice x y z)) w.heap.size 28 #[.slice x y z]∧au (w1.setCell ⟨w.heap.size,0,none⟩ (.slice x y z)) (w.heap.size+1) 28 #[.slice none 0 0]∧Below w.heap.size w (w1.setCell ⟨w.heap.size,0,none⟩ (.slice x y z))∧∃bs,uf uj oh w.heap.size (w1.setCell ⟨w.heap.size,0,none⟩ (.slice x y z)) (.slice x y z) (List.zipWith Jf ks ts) bs):=by
    obtain⟨h1,h2,h3,bs,hmr⟩:=uh HM
    exact hide ⟨h1.set 0 _,(Below.heap_setCell _ _ _ _ (by simp)).trans h2,h3.setCell (Nat.le_refl _) _,bs,hmr.frC (fun b hb=>Below.heap_setCell _ _ _ _ (fun e9=>au.Tn h1 (C9.typ zy hmr.rowT) (by decide) (by simp only at e9;first|(rw[←e9];exact hb)|(rw[e9];exact hb)))) (by simp[World.setCell])⟩
   clear HM HC
   go_wp2
   go_roundg 0
   case measure=>have:=uh HG;omega
   case rel=>exact⟨2,x,y,z,by omega,rfl,by go_num,(uh HN).1,(uh HN).2.1,(uh HN).2.2.1,hide (And.intro (fun h=>absurd h (by decide)) (And.intro (fun h=>absurd h (by decide)) (fun _=>(uh HN).2.2.2)))⟩
  ·have r0:=(uh H2).cell (i:=0) (v:=.slice none 0 0) rfl
   have z0:=(uh H2).free 0
   have zu:Hid (PO (.returned (.agg #[.slice x1 y1 z1])) (wr.setCell ⟨w.heap.size+1,0,none⟩ (.slice x1 y1 z1))∧(wr.setCell ⟨w.heap.size+1,0,none⟩ (.slice x1 y1 z1)).cell? ⟨w.heap.size+1,0,none⟩=some (.slice x1 y1 z1)):=by
    obtain⟨bs,hmr⟩:=(uh HX).2.2 rfl
    have hbx:=uh H2
    rw[uh Fh]
    refine hide ⟨⟨_,bs,rfl,hmr.frC (fun b hb=>Below.heap_setCell _ _ _ _ (fun e9=>au.Tn hbx (C9.typ zy hmr.rowT) (by decide) (by simp only at e9;first|(rw[←e9];exact hb)|(rw[e9];exact hb)))) (by simp[World.setCell]),(uh HB).setCell (Nat.le_succ _) _⟩,(hbx.set 0 (.slice x1 y1 z1)).cell (i:=0) rfl⟩
   go_wp2
   have f9:=(uh zu).2
   exact bodyPost_ret (v:=.agg #[.slice x1 y1 z1]) (by simp[results,Tryz.results17,go_sem,f9]) rfl (uh zu).1
def PA (P:Nat->Prop) (w:World) (b0 o0 i pb:Nat) (fi:List Int) (ki ri:Int):Prop :=
 ∃mb iv fa fc bv,au w pb 98 (Bz b0 (o0+i*7) mb iv (.slice fa fi.length fc) bv ki ri)∧bf 1 4 Yc 0 w (.slice fa fi.length fc) fi∧P pb∧∀b,(Value.slice fa fi.length fc).ownBlock=some b->P b
theorem PA.o8 {P:Nat->Prop} {w w':World} {b0 o0 i pb:Nat} {fi:List Int} {ki ri:Int} (h:PA P w b0 o0 i pb fi ki ri) (hk:Ae P w w'):PA P w' b0 o0 i pb fi ki ri:=by
 obtain⟨mb,iv,fa,fc,bv,h1,h2,h3,h4⟩:=h
 exact⟨mb,iv,fa,fc,bv,h1.o8 hk h3,h2.o8 aie hk h4,h3,h4⟩
theorem PA.mono {P Q:Nat->Prop} {w:World} {b0 o0 i pb:Nat} {fi:List Int} {ki ri:Int} (h:PA P w b0 o0 i pb fi ki ri) (hq:∀b,P b->Q b):PA Q w b0 o0 i pb fi ki ri:=by
 obtain⟨mb,iv,fa,fc,bv,h1,h2,h3,h4⟩:=h
 exact⟨mb,iv,fa,fc,bv,h1,h2,hq _ h3,fun b hb=>hq b (h4 b hb)⟩
structure EP (P:Nat->Prop) (w:World) (ks:List ak) (b0 o0:Nat) (pl:List Nat) (fs:List (List Int)) (rs known:List Int):Prop where
 fl:fs.length=pl.length
 rl:rs.length=pl.length
 kl:known.length=pl.length
 le:pl.length<=ks.length
 pa:∀i (h:i<pl.length) (h1:i<fs.length) (h2:i<known.length) (h3:i<rs.length),PA P w b0 o0 i pl[i] fs[i] known[i] rs[i]
 fb:∀x,x∈fs->x.length<=20000
 rb:∀x,x∈rs->0<=x∧x<=1000000
 kb:∀x,x∈known->0<=x∧x<=400000
 gb:∀i (h:i<ks.length),i<pl.length->ks[i].ins.length<=1000∧ks[i].outs.length<=1000
theorem EP.o8 {P:Nat->Prop} {w w':World} {ks:List ak} {b0 o0:Nat} {pl:List Nat} {fs:List (List Int)} {rs known:List Int} (h:EP P w ks b0 o0 pl fs rs known) (hk:Ae P w w'):EP P w' ks b0 o0 pl fs rs known :=
 ⟨h.fl,h.rl,h.kl,h.le,fun i a b c d=>(h.pa i a b c d).o8 hk,h.fb,h.rb,h.kb,h.gb⟩
theorem EP.mono {P Q:Nat->Prop} {w:World} {ks:List ak} {b0 o0:Nat} {pl:List Nat} {fs:List (List Int)} {rs known:List Int} (h:EP P w ks b0 o0 pl fs rs known) (hq:∀b,P b->Q b):EP Q w ks b0 o0 pl fs rs known :=
 ⟨h.fl,h.rl,h.kl,h.le,fun i a b c d=>(h.pa i a b c d).mono hq,h.fb,h.rb,h.kb,h.gb⟩
theorem EP.ea {P:Nat->Prop} {w:World} {ks:List ak} {b0 o0:Nat} {pl:List Nat} {fs:List (List Int)} {rs known:List Int} (h:EP P w ks b0 o0 pl fs rs known) {ev:Value} (he:bf 1 8 afg 0 w ev pl):EA w ev pl fs rs where
 sl:=he
 fl:=h.fl
 rl:=h.rl
 c3:=fun i a b=>by
  obtain⟨mb,iv,fa,fc,bv,h1,h2,_⟩:=h.pa i a b (by rw[h.kl];exact a) (by rw[h.rl];exact a)
  exact⟨fa,fc,h1.cell (i:=3) rfl,h2,h.fb _ (List.getElem_mem b)⟩
 c6:=fun i a b=>by
  obtain⟨mb,iv,fa,fc,bv,h1,h2,_⟩:=h.pa i a (by rw[h.fl];exact a) (by rw[h.kl];exact a) b
  have:=h.rb _ (List.getElem_mem b)
  exact⟨h1.cell (i:=6) rfl,this.1,this.2⟩
theorem Zt {w:World} {b0 o0 n c:Nat} {ks:List ak} (h:bf 7 160 ni 0 w (.slice (some ⟨b0,o0,none⟩) n c) ks) (i:Nat) (hi:i<ks.length):∃a1 a2 a3 a4 a5 a6,CA w b0 (o0+i*7) ks[i] a1 a2 a3 a4 a5 a6:=by
 obtain⟨a,cap,hv,_,_,hx⟩:=h
 simp only[Value.slice.injEq] at hv
 obtain⟨rfl,_,rfl⟩:=hv
 obtain⟨b,o,cs,ql,_,hb,hl,hc,⟨a1,a2,a3,a4,a5,a6,rfl,h1,h2,h3,h4,h5,h6,h7⟩⟩:=hx i hi
 simp only[Option.some.injEq,Addr.mk.injEq] at ql
 obtain⟨rfl,rfl,_⟩:=ql
 exact⟨a1,a2,a3,a4,a5,a6,hb,hc 0 (by simp),hc 1 (by simp),hc 2 (by simp),hc 3 (by simp),hc 4 (by simp),hc 5 (by simp),hc 6 (by simp),h1,h2,h3,h4,h5,h6,h7⟩
def Qm (ks:List ak) (k:ak) (fs:List (List Int)) (known:List Int):Bool:=nameB k.name&&(Hy k&&(ownB fs k&&(decide (k.body.length<=30000)&&Ls ks k known)))
def Jy (ks:List ak) (k:ak) (known:List Int):Int:=match yc ks k (k.body.length+1) k.body [] 0 with
 | some (t,[])=>t.cost (lg k.insts known) 0
 | _=>0
def avp (pl:List Nat) (fs:List (List Int)) (k:ak) (ins:List (Nat × Nat)):Prop:=∀q (hq:q<k.insts.length),∃p,pl[k.insts[q].toNat]?=some p∧ins.getD q (0,0)=(p,(firstTo fs k.aj k.insts q).length)
def Yu (P:Nat->Prop) (w Wm:World) (ks:List ak) (fs:List (List Int)) (b0 o0 i:Nat) (pl:List Nat) (pb:Nat):Prop :=
 ∃k mb iv fv bv ki ri X nodes t,ks[i]?=some k∧(au w pb 98 (Bz b0 (o0+i*7) mb iv fv bv ki ri)∧P pb)∧(Ba w mb (varsOf k).length (vk (varsOf k))∧P mb)∧(X.k=k∧X.Wm=Wm∧avp pl fs k X.ins)∧yc ks k (k.body.length+1) k.body [] 0=some (t,[])∧(bf 1 16 U9 0 w bv nodes∧∀b,bv.ownBlock=some b->P b)∧jg X P w t nodes
theorem Yu.o8 {P:Nat->Prop} {w w' Wm:World} {ks:List ak} {fs:List (List Int)} {b0 o0 i:Nat} {pl:List Nat} {pb:Nat} (h:Yu P w Wm ks fs b0 o0 i pl pb) (hk:Ae P w w'):Yu P w' Wm ks fs b0 o0 i pl pb:=by
 obtain⟨k,mb,iv,fv,bv,ki,ri,X,nodes,t,h1,⟨h2,h2'⟩,⟨h3,h3'⟩,h4,h5,⟨h6,h6'⟩,h7⟩:=h
 exact⟨k,mb,iv,fv,bv,ki,ri,X,nodes,t,h1,⟨h2.o8 hk h2',h2'⟩,⟨h3.block (hk.2 mb h3' h3.lt),h3'⟩,h4,h5,⟨h6.o8 Px hk h6',h6'⟩,jg.o8 hk _ _ h7⟩
theorem Yu.mono {P Q:Nat->Prop} {w Wm:World} {ks:List ak} {fs:List (List Int)} {b0 o0 i:Nat} {pl:List Nat} {pb:Nat} (h:Yu P w Wm ks fs b0 o0 i pl pb) (hq:∀b,P b->Q b):Yu Q w Wm ks fs b0 o0 i pl pb:=by
 obtain⟨k,mb,iv,fv,bv,ki,ri,X,nodes,t,h1,⟨h2,h2'⟩,⟨h3,h3'⟩,h4,h5,⟨h6,h6'⟩,h7⟩:=h
 exact⟨k,mb,iv,fv,bv,ki,ri,X,nodes,t,h1,⟨h2,hq _ h2'⟩,⟨h3,hq _ h3'⟩,h4,h5,⟨h6,fun b hb=>hq b (h6' b hb)⟩,jg.mono hq _ _ h7⟩
theorem Yu.more {P:Nat->Prop} {w Wm:World} {ks:List ak} {fs:List (List Int)} {b0 o0 i:Nat} {pl:List Nat} {pb:Nat} (h:Yu P w Wm ks fs b0 o0 i pl pb) (q:Nat):Yu P w Wm ks fs b0 o0 i (pl++[q]) pb:=by
 obtain⟨k,mb,iv,fv,bv,ki,ri,X,nodes,t,h1,h2,h3,⟨e1,e2,h4⟩,h5,h6,h7⟩:=h
 refine⟨k,mb,iv,fv,bv,ki,ri,X,nodes,t,h1,h2,h3,⟨e1,e2,fun q' hq=>?_⟩,h5,h6,h7⟩
 obtain⟨p,h8,h9⟩:=h4 q' hq
 refine⟨p,?_,h9⟩
 rw[List.getElem?_append_left (List.getElem?_eq_some_iff.1 h8).1]
 exact h8
def ax4 (Wm:World) (pl:List Nat) (ks:List ak) (k:ak) (i b0 o0:Nat) (fs:List (List Int)) (rs known:List Int) (w:World) (R:Bool) (e:Ending) (w':World):Prop :=
 (R=false->e=.returned (.pointer none))∧(R=true->∃pb,e=.returned (.pointer (some ⟨pb,0,none⟩))∧PA (New w.heap.size w'.heap.size) w' b0 o0 i pb (firstTo fs k.aj k.insts k.insts.length) (Jy ks k known) (((varsOf k).length:Int)+yj rs k.insts k.insts.length)∧Yu (New w.heap.size w'.heap.size) w' Wm ks fs b0 o0 i pl pb)∧Below w.heap.size w w'
theorem abe (k:ak) (h:Hy k=true):(varsOf k).length<=1000:=by
 unfold Hy at h
 rw[Bool.and_eq_true] at h
 have:=of_decide_eq_true h.1
 unfold varsOf
 simp
 omega
theorem adb (fs:List (List Int)) (k:ak) (h:ownB fs k=true):(firstTo fs k.aj k.insts k.insts.length).length<=20000:=by
 unfold ownB at h
 simp only[Bool.and_eq_true] at h
 obtain⟨h1,_,h3⟩:=h
 have h1:=of_decide_eq_true h1
 generalize hn:k.insts.length=n at *
 cases n with
 | zero=>rw[Qn];omega
 | succ n =>
  have h9:=List.all_eq_true.1 h3 n (List.mem_range.2 (by omega))
  unfold Gt at h9
  rw[List.getElem?_eq_getElem (by omega)] at h9
  simp only[Bool.and_eq_true] at h9
  exact of_decide_eq_true h9.2
set_option maxRecDepth 20000 in
set_option maxHeartbeats 4000000 in
theorem ap0 (Wm:World) (P:Nat->Prop) (ks:List ak) (i:Nat) (hi:i<ks.length) (b0 o0 n c:Nat) (ev:Value) (pl:List Nat) (fs:List (List Int)) (rs known:List Int) (w:World) (hm0:bf 7 160 ni 0 Wm (.slice (some ⟨b0,o0,none⟩) n c) ks) (hWm:Below Wm.heap.size Wm w) (he:bf 1 8 afg 0 w ev pl) (hp:EP P w ks b0 o0 pl fs rs known) (hpl:pl.length<=200) :
  Calls Tryz.prog 58 #[.pointer (some ⟨b0,o0+i*7,none⟩),ev] w (ax4 Wm pl ks ks[i] i b0 o0 fs rs known w (Qm ks ks[i] fs known)):=by
 have hm:=hm0.stays jm hWm
 have hki:ks[i]?=some ks[i]:=List.getElem?_eq_getElem hi
 obtain⟨a1,a2,a3,a4,a5,a6,hCm⟩:=Zt hm0 i hi
 have hC:=hCm.stays hWm
 have HCM:=hide hCm
 have HWM:=hide hWm
 clear hCm hm0 hWm
 have c0:=hC.c0
 have lc:=hC.lt
 obtain⟨ea,ec,hev⟩:=he.shape
 subst hev
 have HM:=hide hm
 have HE:=hide he
 have HP:=hide hp
 have HC:=hide hC
 generalize hk:ks[i]=k at *
 have HB:Hid (Qm ks k fs known=(nameB k.name&&(Hy k&&(ownB fs k&&(decide (k.body.length<=30000)&&Ls ks k known))))):=rfl
 have hW0:Below w.heap.size w ((w.alloc (.map #[] 0)).alloc (.cells #[.pointer (some ⟨b0,o0+i*7,none⟩),.map (some w.heap.size),.slice none 0 0,.slice none 0 0,.slice none 0 0,.int .i64 0,.int .i64 0] 98)):=((Below.refl _ _).alloc (Nat.le_refl _) _).alloc (by simp) _
 have hz1:(w.alloc (.map #[] 0)).heap.size=w.heap.size+1:=by simp
 have asa:=jl (w.alloc (.map #[] 0)) #[.pointer (some ⟨b0,o0+i*7,none⟩),.map (some w.heap.size),.slice none 0 0,.slice none 0 0,.slice none 0 0,.int .i64 0,.int .i64 0] 98
 rw[hz1] at asa
 have ax5:Ba ((w.alloc (.map #[] 0)).alloc (.cells #[.pointer (some ⟨b0,o0+i*7,none⟩),.map (some w.heap.size),.slice none 0 0,.slice none 0 0,.slice none 0 0,.int .i64 0,.int .i64 0] 98)) w.heap.size 0 (vk []):=by
  have h9:Ba (w.alloc (.map #[] 0)) w.heap.size 0 (fun _=>none):=Bv.made w
  have h8:vk []=fun _=>none:=by funext x;rfl
  rw[h8]
  exact h9.below ((Below.refl (w.heap.size+1) _).alloc (by omega) _) (by omega)
 have V4:=hide (fun w'=>abb k.name w' hC.name)
 have Ap:Hid (ownB fs k=true->(firstTo fs k.aj k.insts k.insts.length).length*4<=140737488355328):=fun h=>by
  have:=adb fs k h
  omega
 have HW0:=hide hW0
 have ax6:=hide asa
 have ax7:=hide ax5
 have c0':=(hW0.cell (p:=⟨b0,o0+i*7,none⟩) lc).trans c0
 clear hm he hp hC hW0 asa ax5 hz1
 have hmm:=@run_makeMap Tryz.prog
 have HDE:Hid (∀w1,Below w.heap.size w w1->au w1 (w.heap.size+1) 98 (Bz b0 (o0+i*7) w.heap.size (.slice none 0 0) (.slice none 0 0) (.slice none 0 0) 0 0)->Ba w1 w.heap.size 0 (vk [])->Calls Tryz.prog 80 #[.pointer (some ⟨w.heap.size+1,0,none⟩)] w1 fun e w2=>e=.returned (.bool (Hy k))∧(Hy k=true->Ba w2 w.heap.size (varsOf k).length (vk (varsOf k)))∧But [w.heap.size] w1 w2):=fun w1 hb hk hm =>
  amq k (w.heap.size+1) w.heap.size b0 (o0+i*7) a1 a2 a3 a4 a5 a6 w w1 (uh HC) hb (Nat.le_refl _) (by omega) (hk.cell (i:=0) rfl) (hk.cell (i:=1) rfl) hm
 have HOW:Hid (Hy k=true->∀w2,Below w.heap.size w w2->au w2 (w.heap.size+1) 98 (Bz b0 (o0+i*7) w.heap.size (.slice none 0 0) (.slice none 0 0) (.slice none 0 0) 0 0)->Ba w2 w.heap.size (varsOf k).length (vk (varsOf k))->Calls Tryz.prog 81 #[.pointer (some ⟨w.heap.size+1,0,none⟩),.slice ea pl.length ec] w2 (aif k (w.heap.size+1) w.heap.size b0 (o0+i*7) pl fs rs w2 (ownB fs k))):=fun hd w2 hb hk hm =>
  ax8 k (w.heap.size+1) w.heap.size b0 (o0+i*7) a1 a2 a3 a4 a5 a6 _ pl fs rs (vk (varsOf k)) w w2 (uh HC) ((uh HP).ea (uh HE)) (by omega) hb (by omega) hm (abe k hd) hk
 have Hg:Hid (Hy k=true->ownB fs k=true->∀w3 iv g c,Below w.heap.size w w3->au w3 (w.heap.size+1) 98 (Bz b0 (o0+i*7) w.heap.size iv (.slice (some ⟨g,0,none⟩) (firstTo fs k.aj k.insts k.insts.length).length c) (.slice none 0 0) 0 (((varsOf k).length:Int)+yj rs k.insts k.insts.length))->Ba w3 w.heap.size (varsOf k).length (vk (varsOf k))->(∃bs,dw Om w3 bs iv (Hz pl fs k.aj k.insts k.insts.length))->Calls Tryz.prog 82 #[.pointer (some ⟨w.heap.size+1,0,none⟩)] w3 (ap1 Wm ks k (w.heap.size+1) w.heap.size b0 (o0+i*7) a1 a2 a3 a4 a5 a6 iv (.slice (some ⟨g,0,none⟩) (firstTo fs k.aj k.insts k.insts.length).length c) (Hz pl fs k.aj k.insts k.insts.length) known (((varsOf k).length:Int)+yj rs k.insts k.insts.length) w3 (decide (k.body.length<=30000)&&Ls ks k known) (yc ks k (k.body.length+1) k.body [] 0))):=fun hd ho w3 iv g c hb hk hm ⟨bs,hoi⟩=>by
  have hown:=ho
  unfold ownB at hown
  simp only[Bool.and_eq_true] at hown
  obtain⟨q1,_,q3⟩:=hown
  have q1:=of_decide_eq_true q1
  refine asb Wm ks k (w.heap.size+1) w.heap.size b0 (o0+i*7) a1 a2 a3 a4 a5 a6 iv _ (Hz pl fs k.aj k.insts k.insts.length) known _ w3 ⟨uh HCM,hk.cell (i:=0) rfl,hk.cell (i:=1) rfl,hk.cell (i:=2) rfl,hm,Py _ _ _ _ _,?_,?_,abe k hd,(uh HWM).trans (hb.mono (uh HWM).size)⟩ (fun x hx=>by have:=(uh HP).kb x hx;omega) hk (by omega)
  ·exact hoi.at (E:=Om) (R:=ahv) (fun x _=>rfl) (by rw[Py];simp[Om];omega)
  ·intro j hj hj'
   have h9:=List.all_eq_true.1 q3 j (List.mem_range.2 hj')
   unfold Gt at h9
   rw[List.getElem?_eq_getElem hj'] at h9
   simp only[Bool.and_eq_true] at h9
   have h8:=of_decide_eq_true h9.1
   obtain⟨gi,hgi⟩:=Int.eq_ofNat_of_zero_le h8.1
   have hgl:gi<pl.length:=by rw[←(uh HP).fl];omega
   have hgk:gi<ks.length:=Nat.lt_of_lt_of_le hgl (uh HP).le
   obtain⟨g1,g2,g3,g4,g5,g6,hCg⟩:=Zt (uh HM) gi hgk
   obtain⟨pmb,piv,pfa,pfc,pbv,hp1,hp2,_⟩:=(uh HP).pa gi hgl (by rw[(uh HP).fl];exact hgl) (by rw[(uh HP).kl];exact hgl) (by rw[(uh HP).rl];exact hgl)
   have hpg:=hp1.below hb hp1.lt
   obtain⟨d1,m1,e1⟩:=hCg.ins.shape
   obtain⟨d2,m2,e2⟩:=hCg.outs.shape
   have hins:(Hz pl fs k.aj k.insts k.insts.length)[j].1=pl[gi]:=by
    simp only[Hz,List.getElem_map,List.getElem_range]
    rw[List.getD_eq_getElem?_getD (l:=k.insts),List.getElem?_eq_getElem hj',Option.getD_some,hgi,Int.toNat_natCast,List.getD_eq_getElem?_getD,List.getElem?_eq_getElem hgl,Option.getD_some]
   have hkn:known.getD gi 0=known[gi]'(by rw[(uh HP).kl];exact hgl):=by rw[List.getD_eq_getElem?_getD,List.getElem?_eq_getElem (by rw[(uh HP).kl];exact hgl),Option.getD_some]
   rw[hins]
   have kbb:=(uh HP).kb _ (List.getElem_mem (by rw[(uh HP).kl];exact hgl:gi<known.length))
   have gbb:=(uh HP).gb gi hgk hgl
   refine⟨gi,ks[gi],b0,o0+gi*7,d1,m1,d2,m2,hgi,List.getElem?_eq_getElem hgk,hpg.cell (i:=0) rfl,?_,?_,by rw[hkn];exact hpg.cell (i:=5) rfl,by rw[hkn];exact kbb,gbb.1,gbb.2⟩
   ·rw[hb.cell (p:=⟨b0,_,none⟩) hCg.lt,hCg.c1,e1]
   ·rw[hb.cell (p:=⟨b0,_,none⟩) hCg.lt,hCg.c2,e2]
 have HCK:Hid (Jy ks k known=match yc ks k (k.body.length+1) k.body [] 0 with
  | some (t,[])=>t.cost (lg k.insts known) 0
  | _=>0):=rfl
 generalize Qm ks k fs known=R at *
 generalize (decide (k.body.length<=30000)&&Ls ks k known)=rb at *
 have Wp:Hid (ownB fs k=true->avp pl fs k (Hz pl fs k.aj k.insts k.insts.length)):=fun h q hq=>by
  unfold ownB at h
  simp only[Bool.and_eq_true] at h
  have h9:=List.all_eq_true.1 h.2.2 q (List.mem_range.2 hq)
  unfold Gt at h9
  rw[List.getElem?_eq_getElem hq] at h9
  simp only[Bool.and_eq_true] at h9
  have h8:=of_decide_eq_true h9.1
  have hgl:k.insts[q].toNat<pl.length:=by rw[←(uh HP).fl];omega
  refine⟨pl[k.insts[q].toNat],List.getElem?_eq_getElem hgl,?_⟩
  rw[List.getD_eq_getElem?_getD,List.getElem?_eq_getElem (by rw[Py];exact hq),Option.getD_some]
  simp only[Hz,List.getElem_map,List.getElem_range]
  rw[List.getD_eq_getElem?_getD (l:=k.insts),List.getElem?_eq_getElem hq,Option.getD_some,List.getD_eq_getElem?_getD,List.getElem?_eq_getElem hgl,Option.getD_some]
 have HKI:=hide hki
 clear hki
 generalize hlf:yc ks k (k.body.length+1) k.body [] 0=o at *
 have HLF:=hide hlf
 clear hlf
 generalize Hy k=rd at *
 generalize ownB fs k=ro at *
 generalize nameB k.name=rn at *
 clear c0
 go_enter Tryz.func58,Tryz.ntmps58
 go_wp2_with fail
 generalize ((w.alloc (.map #[] 0)).alloc (.cells #[.pointer (some ⟨b0,o0+i*7,none⟩),.map (some w.heap.size),.slice none 0 0,.slice none 0 0,.slice none 0 0,.int .i64 0,.int .i64 0] 98))=w0 at *
 refine(uh V4 w0).mono ?_
 rintro e w1 ⟨rfl,hb1⟩
 have HB1:Hid (Below w.heap.size w w1):=(uh HW0).trans (hb1.mono (uh HW0).size)
 have hk1:=(uh ax6).below hb1 (uh ax6).lt
 have hm1:=(uh ax7).below hb1 (uh ax7).lt
 have Xp:=hide hk1
 have HD1:=hide (uh HDE w1 (uh HB1) hk1 hm1)
 clear hb1 hk1 hm1 hmm HDE
 cases rn
 ·have HF:Hid (R=false):=(uh HB).trans (Bool.false_and _)
  go_wp2
  go_ret
  rw[uh HF]
  exact⟨(fun _=>rfl),(fun h=>by cases h),uh HB1⟩
 have HR1:Hid (R=(rd&&(ro&&rb))):=(uh HB).trans (Bool.true_and _)
 clear HB
 go_wp2_with fail
 refine(uh HD1).mono ?_
 rintro e w2 ⟨rfl,hm2,asc⟩
 have HB2:Hid (Below w.heap.size w w2):=(uh HB1).trans (asc.below _ (uh HB1).size (fun q hq=>by rw[List.mem_singleton] at hq;omega))
 have Ny:=hide (asc.blk (uh Xp) (by simp))
 have HM2:=hide hm2
 clear hm2 asc HD1
 cases rd
 ·have HF:Hid (R=false):=(uh HR1).trans (Bool.false_and _)
  go_wp2
  go_ret
  rw[uh HF]
  exact⟨(fun _=>rfl),(fun h=>by cases h),uh HB2⟩
 have HR2:Hid (R=(ro&&rb)):=(uh HR1).trans (Bool.true_and _)
 have a2t:=hide (uh HM2 rfl)
 have Ee:=hide (uh HOW rfl w2 (uh HB2) (uh Ny) (uh HM2 rfl))
 have ax9:=hide (uh Hg rfl)
 clear HR1 HOW Hg
 go_wp2_with fail
 refine(uh Ee).mono ?_
 rintro e w3 ⟨rfl,ade,hr3⟩
 have HB3:Hid (Below w.heap.size w w3):=(uh HB2).trans (ade.below _ (uh HB2).size (fun q hq=>by rw[List.mem_singleton] at hq;omega))
 have HM3:=hide (ade.map (uh a2t) (by simp))
 have HR3:=hide hr3
 clear ade hr3 Ee
 cases ro
 ·have HF:Hid (R=false):=(uh HR2).trans (Bool.false_and _)
  go_wp2
  go_ret
  rw[uh HF]
  exact⟨(fun _=>rfl),(fun h=>by cases h),uh HB3⟩
 have HR4:Hid (R=rb):=(uh HR2).trans (Bool.true_and _)
 obtain⟨iv,g,c,q1,q2,q3⟩:=uh HR3 rfl
 have HB4:=hide (uh ax9 rfl w3 iv g c (uh HB3) q1 (uh HM3) ⟨_,q2⟩)
 have hne:=dw.Aw q3 q1 (by decide)
 have HNE:=hide hne
 have HQ3:=hide q3
 have HGN:Hid (∀n,w3.heap.size<=n->New w.heap.size n g):=fun n hn=>by
  have h9:=q3.lt g rfl
  have:=(uh HB2).size
  exact⟨by omega,by omega⟩
 have hfl:(firstTo fs k.aj k.insts k.insts.length).length*4<=140737488355328:=uh Ap rfl
 have Ef:Hid (bf 1 4 Yc 0 w3 (.slice (some ⟨g,0,none⟩) (firstTo fs k.aj k.insts k.insts.length).length c) (firstTo fs k.aj k.insts k.insts.length)):=q3.at (E:=Oh) (R:=Yc) (fun x _=>rfl) (by simpa[Oh] using hfl)
 clear q1 q2 q3 hne HR2 HR3 ax9 hfl
 go_wp2_with fail
 refine(uh HB4).mono ?_
 rintro e w4 ⟨rfl,aii,hr4⟩
 have zo:Hid (Below w.heap.size w w4):=(uh HB3).trans (aii.below _ (uh HB3).size (fun q hq=>by rw[List.mem_singleton] at hq;omega))
 have Es:Hid (bf 1 4 Yc 0 w4 (.slice (some ⟨g,0,none⟩) (firstTo fs k.aj k.insts k.insts.length).length c) (firstTo fs k.aj k.insts k.insts.length)):=(uh Ef).o8 (P:=fun b=>b≠w.heap.size+1) aie (aii.o8 (fun q hq h=>h (List.mem_singleton.1 hq))) (fun b hb e=>by subst e;exact uh HNE hb)
 have Dz:=hide hr4
 have a2u:=hide aii.size
 have HM4:=hide (aii.map (uh HM3) (by simp))
 clear aii hr4 HB4
 cases rb
 ·have HF:Hid (R=false):=uh HR4
  go_wp2
  go_ret
  rw[uh HF]
  exact⟨(fun _=>rfl),(fun h=>by cases h),uh zo⟩
 ·have HF:Hid (R=true):=uh HR4
  obtain⟨t,bv,nodes,bb,hb,gb,lo,g1,g2,g3,g4⟩:=uh Dz rfl
  have hck:Jy ks k known=t.cost (lg k.insts known) 0:=by
   rw[g1] at HCK
   exact uh HCK
  have HPA:Hid (PA (New w.heap.size w4.heap.size) w4 b0 o0 i (w.heap.size+1) (firstTo fs k.aj k.insts k.insts.length) (Jy ks k known) (((varsOf k).length:Int)+yj rs k.insts k.insts.length)):=⟨w.heap.size,iv,_,_,bv,by rw[hck];exact g2,uh Es,⟨by omega,g2.lt⟩,fun b hb=>by
   simp only[Value.ownBlock,Option.some.injEq] at hb
   subst hb
   exact uh HGN _ (uh a2u)⟩
  have HPX:Hid (Yu (New w.heap.size w4.heap.size) w4 Wm ks fs b0 o0 i pl (w.heap.size+1)):=by
   have hz:=(uh HB2).size
   have hz3:=(uh HB3).size
   have hlt:=g2.lt
   exact hide ⟨k,w.heap.size,iv,_,bv,_,_,_,nodes,t,uh HKI,⟨g2,⟨by omega,hlt⟩⟩,⟨uh HM4,⟨Nat.le_refl _,by omega⟩⟩,⟨rfl,rfl,uh Wp (by simp)⟩,(uh HLF).trans g1,⟨g3.1,fun b hb=>⟨by have:=(g3.2 b hb).1;omega,(g3.2 b hb).2⟩⟩,jg.mono (fun b h=>⟨by have:=h.1;omega,h.2⟩) _ _ g4⟩
  clear g1 g2 g3 g4 hck Dz HCK
  go_wp2
  go_ret
  rw[uh HF]
  exact⟨(fun h=>by cases h),(fun _=>⟨w.heap.size+1,rfl,uh HPA,uh HPX⟩),uh zo⟩
def Gu (ks:List ak):Nat->List (List Int)
 | 0=>[]
 | n+1=>Gu ks n++[match ks[n]? with|some k=>firstTo (Gu ks n) k.aj k.insts k.insts.length|none=>[]]
def Jp (ks:List ak):Nat->List Int
 | 0=>[]
 | n+1=>Jp ks n++[match ks[n]? with|some k=>((varsOf k).length:Int)+yj (Jp ks n) k.insts k.insts.length|none=>0]
def J5 (ks:List ak):Nat->List Int
 | 0=>[]
 | n+1=>J5 ks n++[match ks[n]? with|some k=>Jy ks k (J5 ks n)|none=>0]
theorem Nr (ks:List ak) (n:Nat):(Gu ks n).length=n:=by
 induction n with
 | zero=>rfl
 | succ n ih=>rw[Gu,List.length_append,ih];rfl
theorem ab6 (ks:List ak) (n:Nat):(Jp ks n).length=n:=by
 induction n with
 | zero=>rfl
 | succ n ih=>rw[Jp,List.length_append,ih];rfl
theorem ab7 (ks:List ak) (n:Nat):(J5 ks n).length=n:=by
 induction n with
 | zero=>rfl
 | succ n ih=>rw[J5,List.length_append,ih];rfl
def newName (ks:List ak) (i:Nat):Bool:=match ks[i]? with
 | some k=>(List.range i).all (fun j=>!(match ks[j]? with|some y=>y.name.toList == k.name.toList|none=>false))
 | none=>false
def Qo (ks:List ak) (i:Nat):Bool:=match ks[i]? with
 | some k=>Qm ks k (Gu ks i) (J5 ks i)&&newName ks i
 | none=>false
def Gv (ks:List ak):Bool:=decide (ks.length<=200)&&(List.range ks.length).all (Qo ks)
theorem akr (ks:List ak) (k:ak) (fs:List (List Int)) (known:List Int) (h:Qm ks k fs known=true):(Hy k=true∧ownB fs k=true∧k.body.length<=30000∧Ls ks k known=true)∧(k.ins.length<=1000∧k.outs.length<=1000)∧(Jy ks k known<=400000):=by
 unfold Qm at h
 simp only[Bool.and_eq_true] at h
 obtain⟨_,h2,h3,h4,h5⟩:=h
 have h6:=h2
 unfold Hy at h6
 rw[Bool.and_eq_true] at h6
 have h7:=of_decide_eq_true h6.1
 refine⟨⟨h2,h3,of_decide_eq_true h4,h5⟩,⟨by omega,by omega⟩,?_⟩
 unfold Ls at h5
 unfold Jy
 split at h5
 ·rename_i t heq
  rw[heq]
  exact of_decide_eq_true h5
 ·cases h5
theorem ase (w:World):(zeroValue 90).run Tryz.prog w=.ok (.pointer none) w:=by kernel_rfl
theorem aks (ks:List ak) (i:Nat) (hi:i<ks.length):newName ks i=true↔∀j (hj:j<ks.length),j<i->ks[j].name≠ks[i].name:=by
 unfold newName
 rw[List.getElem?_eq_getElem hi]
 simp only
 rw[List.all_eq_true]
 constructor
 ·intro h j hj hji e
  have h9:=h j (List.mem_range.2 hji)
  rw[List.getElem?_eq_getElem hj] at h9
  simp[e] at h9
 ·intro h j hj
  rw[List.mem_range] at hj
  rw[List.getElem?_eq_getElem (by omega)]
  have:=h j (by omega) hj
  simp only[Ak]
  simpa using this
theorem asf (ks:List ak) (k:ak) (known:List Int) (hk:∀x,x∈known->0<=x∧x<=400000):0<=Jy ks k known:=by
 unfold Jy
 split
 ·exact(Rq _ (fun s=>by have:=Pz known 400000 (by omega) hk (k.insts.getD s.at_.toNat 0).toNat;exact⟨this.1,Int.le_trans this.2 (by omega)⟩) _ 0 (by omega) (by omega)).1
 ·omega
theorem EP.next {P:Nat->Prop} {w:World} {ks:List ak} {b0 o0:Nat} {pl:List Nat} {i:Nat} (h:EP P w ks b0 o0 pl (Gu ks i) (Jp ks i) (J5 ks i)) (hi:i<ks.length) (hpl:pl.length=i) (asg:ks.length<=200) (hr:∀x,x∈Jp ks i->x<=1000*i) (hok:Qm ks ks[i] (Gu ks i) (J5 ks i)=true) {pb:Nat} (hp:PA P w b0 o0 i pb (firstTo (Gu ks i) ks[i].aj ks[i].insts ks[i].insts.length) (Jy ks ks[i] (J5 ks i)) (((varsOf ks[i]).length:Int)+yj (Jp ks i) ks[i].insts ks[i].insts.length)) :
  EP P w ks b0 o0 (pl++[pb]) (Gu ks (i+1)) (Jp ks (i+1)) (J5 ks (i+1))∧∀x,x∈Jp ks (i+1)->x<=1000*(i+1):=by
 obtain⟨⟨g1,g2,_,_⟩,g5,g6⟩:=akr _ _ _ _ hok
 have ef:Gu ks (i+1)=Gu ks i++[firstTo (Gu ks i) ks[i].aj ks[i].insts ks[i].insts.length]:=by rw[Gu,List.getElem?_eq_getElem hi]
 have er:Jp ks (i+1)=Jp ks i++[((varsOf ks[i]).length:Int)+yj (Jp ks i) ks[i].insts ks[i].insts.length]:=by rw[Jp,List.getElem?_eq_getElem hi]
 have ek:J5 ks (i+1)=J5 ks i++[Jy ks ks[i] (J5 ks i)]:=by rw[J5,List.getElem?_eq_getElem hi]
 have hvl:=abe _ g1
 have hrm:yj (Jp ks i) ks[i].insts ks[i].insts.length<=1000*i:=by
  have:∀q,yj (Jp ks i) ks[i].insts q<=1000*i:=fun q=>by
   induction q with
   | zero=>simp only[yj];omega
   | succ q ih =>
    simp only[yj,maxS]
    split
    ·rw[List.getD_eq_getElem?_getD]
     cases hx:(Jp ks i)[(ks[i].insts.getD q 0).toNat]? with
     | none=>simp;omega
     | some x=>exact hr x (List.mem_of_getElem? hx)
    ·exact ih
  exact this _
 have hr0:=(alp (Jp ks i) ks[i].insts h.rb ks[i].insts.length).1
 constructor
 ·refine⟨by rw[Nr];simp[hpl],by rw[ab6];simp[hpl],by rw[ab7];simp[hpl],by simp;omega,?_,?_,?_,?_,?_⟩
  ·intro j a b c d
   rw[List.length_append,List.length_singleton] at a
   simp only[ef,er,ek]
   by_cases e:j=i
   ·subst e
    rw[List.getElem_append_right (by omega),List.getElem_append_right (by rw[Nr];omega),List.getElem_append_right (by rw[ab7];omega),List.getElem_append_right (by rw[ab6];omega)]
    simpa using hp
   ·rw[List.getElem_append_left (by omega),List.getElem_append_left (by rw[Nr];omega),List.getElem_append_left (by rw[ab7];omega),List.getElem_append_left (by rw[ab6];omega)]
    exact h.pa j (by omega) (by rw[Nr];omega) (by rw[ab7];omega) (by rw[ab6];omega)
  ·intro x hx
   rw[ef] at hx
   rcases List.mem_append.1 hx with hx|hx
   ·exact h.fb x hx
   ·rw[List.mem_singleton] at hx
    subst hx
    exact adb _ _ g2
  ·intro x hx
   rw[er] at hx
   rcases List.mem_append.1 hx with hx|hx
   ·exact h.rb x hx
   ·rw[List.mem_singleton] at hx
    subst hx
    omega
  ·intro x hx
   rw[ek] at hx
   rcases List.mem_append.1 hx with hx|hx
   ·exact h.kb x hx
   ·rw[List.mem_singleton] at hx
    subst hx
    exact⟨asf _ _ _ h.kb,g6⟩
  ·intro j hj hjl
   rw[List.length_append,List.length_singleton] at hjl
   by_cases e:j=i
   ·subst e;exact g5
   ·exact h.gb j hj (by omega)
 ·intro x hx
  rw[er] at hx
  rcases List.mem_append.1 hx with hx|hx
  ·have:=hr x hx;omega
  ·rw[List.mem_singleton] at hx
   subst hx
   omega
def EX (P:Nat->Prop) (w Wm:World) (ks:List ak) (b0 o0:Nat) (pl:List Nat):Prop:=∀i (h:i<pl.length),Yu P w Wm ks (Gu ks i) b0 o0 i pl pl[i]
theorem EX.o8 {P:Nat->Prop} {w w' Wm:World} {ks:List ak} {b0 o0:Nat} {pl:List Nat} (h:EX P w Wm ks b0 o0 pl) (hk:Ae P w w'):EX P w' Wm ks b0 o0 pl:=fun i hi=>(h i hi).o8 hk
theorem EX.mono {P Q:Nat->Prop} {w Wm:World} {ks:List ak} {b0 o0:Nat} {pl:List Nat} (h:EX P w Wm ks b0 o0 pl) (hq:∀b,P b->Q b):EX Q w Wm ks b0 o0 pl:=fun i hi=>(h i hi).mono hq
theorem EX.next {P:Nat->Prop} {w Wm:World} {ks:List ak} {b0 o0:Nat} {pl:List Nat} {i pb:Nat} (h:EX P w Wm ks b0 o0 pl) (hpl:pl.length=i) (hp:Yu P w Wm ks (Gu ks i) b0 o0 i pl pb):EX P w Wm ks b0 o0 (pl++[pb]):=by
 intro j hj
 rw[List.length_append,List.length_singleton] at hj
 by_cases e:j=i
 ·subst e
  rw[List.getElem_append_right (by omega)]
  simpa using hp.more pb
 ·rw[List.getElem_append_left (by omega)]
  exact(h j (by omega)).more pb
def ap2 (ks:List ak) (b0 o0:Nat) (w:World) (R:Bool) (e:Ending) (w':World):Prop :=
 (R=false->e=.returned (.slice none 0 0))∧(R=true->∃v pl,e=.returned v∧pl.length=ks.length∧bf 1 8 afg 0 w' v pl∧EP (fun _=>True) w' ks b0 o0 pl (Gu ks ks.length) (Jp ks ks.length) (J5 ks ks.length)∧EX (fun _=>True) w' w ks b0 o0 pl)∧Below w.heap.size w w'
end Go.Proofs.YtlcgnbcgmljpaaaGreat
