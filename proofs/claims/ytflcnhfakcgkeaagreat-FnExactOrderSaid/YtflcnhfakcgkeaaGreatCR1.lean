import Derived.Test.YtflcnhfakcgkeaaGreatOwnF
import Derived.Test.YtflcnhfakcgkeaaGreatC1I
import Derived.Test.YtflcnhfakcgkeaaGreatOwn
namespace Go.Proofs.YtflcnhfakcgkeaaGreat
open Go.RowKit
set_option linter.unusedSimpArgs false
set_option linter.unusedVariables false
def Qz (code:List eu) (i:Nat):Nat->Bool
 | 0=>false
 | d+1=>Qz code i d||(match code[i+1+d]? with|some t=>F8 t.op&&decide (Gz (code.take (i+1+d))<=i)|none=>false)
def Yz (code:List eu) (i:Nat):Bool:=Qz code i (code.length-(i+1))
def Hz (code:List eu) (i:Nat):List ByteArray:=match code[i]? with|some t=>if t.name.size=0 then [] else if Yz code i then [] else [t.name]|none=>[]
def Dw (code:List eu):Nat->List ByteArray
 | 0=>[]
 | k+1=>Dw code k++Hz code k
def wz (codes:List (List eu)):Nat->List ByteArray
 | 0=>[]
 | k+1=>wz codes k++(match codes[k]? with|some c=>Dw c c.length|none=>[])
def Gs (vs:List gy) (lhs:List ByteArray):Nat->List ByteArray
 | 0=>[]
 | k+1=>Gs vs lhs k++(match lhs[k]? with|some nm=>(jv vs nm).map (·.name)|none=>[])
def readsOf (vs:List gy) (e:qg):List ByteArray:=Gs vs e.lhs e.lhs.length++wz (dw e) (dw e).length
theorem apu (code:List eu) (i:Nat):(Hz code i).length<=1:=by
 unfold Hz
 cases code[i]? with
 | none=>simp
 | some t =>
  simp only
  split
  ·simp
  ·split<;>simp
theorem ail (code:List eu) (k:Nat):(Dw code k).length<=k:=by
 induction k with
 | zero=>exact Nat.le_refl _
 | succ k ih=>unfold Dw;rw[List.length_append];have:=apu code k;omega
theorem aaj (codes:List (List eu)) (B:Nat) (h:∀c,c∈codes->c.length<=B) (k:Nat):(wz codes k).length<=k*B:=by
 induction k with
 | zero=>simp[wz]
 | succ k ih =>
  unfold wz
  rw[List.length_append,Nat.add_mul]
  cases hc:codes[k]? with
  | none=>simp only[List.length_nil];omega
  | some c =>
   have h1:=h c (List.mem_of_getElem? hc)
   have h2:=ail c c.length
   simp only
   omega
theorem ac5 (vs:List gy) (lhs:List ByteArray) (B:Nat) (h:∀nm,(jv vs nm).length<=B) (k:Nat):(Gs vs lhs k).length<=k*B:=by
 induction k with
 | zero=>simp[Gs]
 | succ k ih =>
  unfold Gs
  rw[List.length_append,Nat.add_mul]
  cases hc:lhs[k]? with
  | none=>simp only[List.length_nil];omega
  | some c =>
   have h1:=h c
   simp only[List.length_map]
   omega
def V6 (w0:World):Nat->World->List Value->List eu->Prop:=fun _ _ cs l=>∃v,cs=[v]∧bf 3 32 jw 0 w0 v l
theorem asa {w0 w:World} {v:Value} {xs:List (List eu)} (h:bf 1 24 yu 0 w v xs) (hw:w=w0):bf 1 24 (V6 w0) 0 w v xs:=by
 subst hw
 exact h
set_option maxHeartbeats 400000 in
theorem ad2 (x:qg) (a1 a2 a3:Value) (w0 w:World) (hw0:Below w0.heap.size w0 w) (h2:bf 3 32 jw 0 w0 a2 x.code) (h3:bf 1 24 yu 0 w0 a3 x.args) :
  Calls Tryz.prog 40 #[.agg #[a1,a2,.string x.call,a3]] w fun e w'=>∃v,e=.returned v∧bf 1 24 (V6 w0) 0 w' v (dw x)∧(2<=(dw x).length->bf 1 24 (V6 w0) 0 w0 v (dw x))∧Below w.heap.size w w':=by
 obtain⟨lhs,code,s,args⟩:=x
 simp only[dw] at *
 obtain⟨b2,c2,rfl⟩:=h2.shape
 obtain⟨b3,c3,rfl⟩:=h3.shape
 have H2:=hide h2
 have H3:=hide h3
 have HW0:=hide hw0
 clear h2 h3 hw0
 have B0:=hide ((Below.refl w.heap.size w).alloc (Nat.le_refl _) (.cells #[a1,.slice b2 code.length c2,.string s,.slice b3 args.length c3] 48))
 by_cases g:s.size=0
 ·rw[if_pos g]
  have d4:=Aa s g
  have Ij:=xg s g
  have HO:Hid (bf 1 24 (V6 w0) 0 ((w.alloc (.cells #[a1,.slice b2 code.length c2,.string s,.slice b3 args.length c3] 48)).alloc (.cells #[.slice b2 code.length c2] 45)) (.slice (some ⟨w.heap.size+1,0,none⟩) 1 1) [code]):=by
   refine⟨_,1,rfl,⟨by simp[Len],by simp⟩,by simp[Len],fun i hi=>?_⟩
   obtain rfl:i=0:=by simpa using hi
   refine⟨w.heap.size+1,0,[.slice b2 code.length c2],rfl,Nat.zero_le _,by simp,rfl,fun j hj=>?_,⟨_,rfl,uh H2⟩⟩
   obtain rfl:j=0:=by simpa using hj
   rw[World.cell?_alloc_at _ _ _ _ (by simp)]
   rfl
  clear g
  go_enter Tryz.func40,Tryz.ntmps40
  go_wp2
  go_ret
  exact⟨_,rfl,by simpa using uh HO,fun h=>absurd h (by simp),(uh B0).trans ((Below.refl _ _).alloc (uh B0).size _)⟩
 ·rw[if_neg g]
  have d4:=Ae s g
  have Ij:=vk s g
  have HI:=hide (asa (uh H3) rfl)
  have HI2:Hid (bf 1 24 (V6 w0) 0 (w.alloc (.cells #[a1,.slice b2 code.length c2,.string s,.slice b3 args.length c3] 48)) (.slice b3 args.length c3) args):=(uh HI).stays (fun _ _ _ _ _ _ h=>h) ((uh HW0).trans ((uh B0).mono (uh HW0).size))
  clear g
  go_enter Tryz.func40,Tryz.ntmps40
  go_wp2
  go_ret
  exact⟨_,rfl,uh HI2,fun _=>uh HI,uh B0⟩
theorem awt (ks:List cu) (m:Nat) (hm:m<ks.length):(ks.take (m+1)).map (·.name)=(ks.take m).map (·.name)++[ks[m].name]:=by
 rw[List.take_succ_eq_append_getElem hm,List.map_append]
 rfl
theorem iw.a14 {w:World} {base lo:Nat} {v:Value} {xs:List ByteArray} (h:iw zh w base v xs) (hlo:lo<=base) (hR:∀x,x∈xs->[Value.string x]=[.string x]∧Len x.size) (hn:xs.length*16<=140737488355328):bf 1 16 Cc lo w v xs:=by
 obtain⟨a,cap,hv,h1,h2,hx⟩:=h.at (R:=Cc) hR hn
 refine⟨a,cap,hv,h1,h2,fun i hi=>?_⟩
 obtain⟨b,o,cs,ha,_,r⟩:=hx i hi
 have hb:base<=b:=h.block b (by rw[hv,ha];rfl)
 exact⟨b,o,cs,ha,by omega,r⟩
set_option maxRecDepth 20000 in
set_option maxHeartbeats 8000000 in
theorem ad5 (x:ay) (b1 b2 b3 b4:Option Addr) (c1 c2 c3 n4 c4:Nat) (hsum:x.ins.length+x.outs.length+x.vars.length<=1048576) (e:qg) (v1 v2 v3:Value) (w:World) (hni:Iu x b1 b2 b3 c1 c2 c3 w)
  (h1:bf 1 16 Cc 0 w v1 e.lhs) (h2:bf 3 32 jw 0 w v2 e.code) (h3:bf 1 24 yu 0 w v3 e.args) (hlh:e.lhs.length<=500) (hck:∀nm,(jv (aj x) nm).length<=8) (hcl:∀c,c∈dw e->c.length<=3000) (hcn:(dw e).length<=500)
  (hnl:∀nm,nm∈readsOf (aj x) e->Len nm.size) :
  Calls Tryz.prog 24 #[.agg #[.string x.name,.slice b1 x.ins.length c1,.slice b2 x.outs.length c2,.slice b3 x.vars.length c3,.slice b4 n4 c4],.agg #[v1,v2,.string e.call,v3]] w fun r w'=>∃v,r=.returned v∧bf 1 16 Cc w.heap.size w' v (readsOf (aj x) e)∧Below w.heap.size w w':=by
 have Ov:=hide (fun w1 (hb:Below w.heap.size w w1) a=>ad2 e a v2 v3 w w1 hb h2 h3)
 have E5:=hide (fun nm w1 (hb:Below w.heap.size w w1)=>Yo x (.slice b1 x.ins.length c1) (.slice b2 x.outs.length c2) (.slice b3 x.vars.length c3) (.slice b4 n4 c4) nm w w1 hb hni.ins hni.outs hni.vars ⟨b4,n4,c4,rfl⟩ hsum)
 have HNL:=hide hnl
 have Oh:Hid (readsOf (aj x) e=Gs (aj x) e.lhs e.lhs.length++wz (dw e) (dw e).length):=rfl
 have HVL:=hide (fun m=>aaj (dw e) 3000 hcl m)
 have Gv:=hide (fun m=>ac5 (aj x) e.lhs 8 hck m)
 have Ot:=hide hcl
 have HK8:=hide hck
 obtain⟨lhs,code,cl,args⟩:=e
 simp only at *
 obtain⟨l1,zn,rfl⟩:=h1.shape
 obtain⟨l2,zx,rfl⟩:=h2.shape
 obtain⟨l3,zy,rfl⟩:=h3.shape
 have n1:=h1.len'
 have H1:=hide h1
 clear h1 h2 h3 hni hcl hck hnl hsum
 generalize readsOf (aj x) ⟨lhs,code,cl,args⟩=res at *
 generalize dw ⟨lhs,code,cl,args⟩=iy at *
 have hA:Below w.heap.size w ((w.alloc (.cells #[.string x.name,.slice b1 x.ins.length c1,.slice b2 x.outs.length c2,.slice b3 x.vars.length c3,.slice b4 n4 c4] 42)).alloc (.cells #[.slice l1 lhs.length zn,.slice l2 code.length zx,.string cl,.slice l3 args.length zy] 48)):=((Below.refl _ _).alloc (Nat.le_refl _) _).alloc (by simp) _
 have hAz:((w.alloc (.cells #[.string x.name,.slice b1 x.ins.length c1,.slice b2 x.outs.length c2,.slice b3 x.vars.length c3,.slice b4 n4 c4] 42)).alloc (.cells #[.slice l1 lhs.length zn,.slice l2 code.length zx,.string cl,.slice l3 args.length zy] 48)).heap.size=w.heap.size+2:=by simp
 have hBN:dh ((w.alloc (.cells #[.string x.name,.slice b1 x.ins.length c1,.slice b2 x.outs.length c2,.slice b3 x.vars.length c3,.slice b4 n4 c4] 42)).alloc (.cells #[.slice l1 lhs.length zn,.slice l2 code.length zx,.string cl,.slice l3 args.length zy] 48)) w.heap.size 42 #[.string x.name,.slice b1 x.ins.length c1,.slice b2 x.outs.length c2,.slice b3 x.vars.length c3,.slice b4 n4 c4]:=(jd w #[.string x.name,.slice b1 x.ins.length c1,.slice b2 x.outs.length c2,.slice b3 x.vars.length c3,.slice b4 n4 c4] 42).below ((Below.refl _ _).alloc (Nat.le_refl _) _) (by simp)
 have hBI:dh ((w.alloc (.cells #[.string x.name,.slice b1 x.ins.length c1,.slice b2 x.outs.length c2,.slice b3 x.vars.length c3,.slice b4 n4 c4] 42)).alloc (.cells #[.slice l1 lhs.length zn,.slice l2 code.length zx,.string cl,.slice l3 args.length zy] 48)) (w.heap.size+1) 48 #[.slice l1 lhs.length zn,.slice l2 code.length zx,.string cl,.slice l3 args.length zy]:=by
  have:=jd (w.alloc (.cells #[.string x.name,.slice b1 x.ins.length c1,.slice b2 x.outs.length c2,.slice b3 x.vars.length c3,.slice b4 n4 c4] 42)) #[.slice l1 lhs.length zn,.slice l2 code.length zx,.string cl,.slice l3 args.length zy] 48
  rwa[show (w.alloc (.cells #[.string x.name,.slice b1 x.ins.length c1,.slice b2 x.outs.length c2,.slice b3 x.vars.length c3,.slice b4 n4 c4] 42)).heap.size=w.heap.size+1 from by simp] at this
 obtain⟨BX,ku⟩:∃BX:World->Prop,∀w',BX w'↔Below (w.heap.size+2) ((w.alloc (.cells #[.string x.name,.slice b1 x.ins.length c1,.slice b2 x.outs.length c2,.slice b3 x.vars.length c3,.slice b4 n4 c4] 42)).alloc (.cells #[.slice l1 lhs.length zn,.slice l2 code.length zx,.string cl,.slice l3 args.length zy] 48)) w':=⟨_,fun _=>Iff.rfl⟩
 have jy:Hid (∀w1,BX w1->Below w.heap.size w w1):=fun w1 h=>hA.trans (((ku w1).1 h).mono (by omega))
 have Bq:Hid (∀w1 w2,BX w1->Below w1.heap.size w1 w2->BX w2):=fun w1 w2 h h2=>(ku w2).2 (((ku w1).1 h).trans (h2.mono (by have:=((ku w1).1 h).size;omega)))
 have HX3:Hid (∀w1 w2 v ys,BX w1->iw zh w1 (w.heap.size+2) v ys->w1.grownBy w2 v.ownBlock->BX w2):=fun w1 w2 v ys h ho hg=>(ku w2).2 (ho.grown ((ku w1).1 h) hg (by have:=((ku w1).1 h).size;omega) (Nat.le_refl _))
 have Bf:Hid (∀w1,BX w1->w1.cell? ⟨w.heap.size,0,none⟩=some (.string x.name)∧w1.cell? ⟨w.heap.size,1,none⟩=some (.slice b1 x.ins.length c1)∧w1.cell? ⟨w.heap.size,2,none⟩=some (.slice b2 x.outs.length c2)∧w1.cell? ⟨w.heap.size,3,none⟩=some (.slice b3 x.vars.length c3)∧w1.cell? ⟨w.heap.size,4,none⟩=some (.slice b4 n4 c4)∧w1.cell? ⟨w.heap.size+1,0,none⟩=some (.slice l1 lhs.length zn)∧w1.cell? ⟨w.heap.size+1,1,none⟩=some (.slice l2 code.length zx)∧w1.cell? ⟨w.heap.size+1,2,none⟩=some (.string cl)∧w1.cell? ⟨w.heap.size+1,3,none⟩=some (.slice l3 args.length zy)):=fun w1 h=>⟨(hBN.below ((ku w1).1 h) (by omega)).cell (i:=0) (v:=.string x.name) rfl,(hBN.below ((ku w1).1 h) (by omega)).cell (i:=1) (v:=.slice b1 x.ins.length c1) rfl,(hBN.below ((ku w1).1 h) (by omega)).cell (i:=2) (v:=.slice b2 x.outs.length c2) rfl,(hBN.below ((ku w1).1 h) (by omega)).cell (i:=3) (v:=.slice b3 x.vars.length c3) rfl,(hBN.below ((ku w1).1 h) (by omega)).cell (i:=4) (v:=.slice b4 n4 c4) rfl,(hBI.below ((ku w1).1 h) (by omega)).cell (i:=0) (v:=.slice l1 lhs.length zn) rfl,(hBI.below ((ku w1).1 h) (by omega)).cell (i:=1) (v:=.slice l2 code.length zx) rfl,(hBI.below ((ku w1).1 h) (by omega)).cell (i:=2) (v:=.string cl) rfl,(hBI.below ((ku w1).1 h) (by omega)).cell (i:=3) (v:=.slice l3 args.length zy) rfl⟩
 have Vu:Hid (∀w1,BX w1->w.heap.size+2<=w1.heap.size):=fun w1 h=>by have:=((ku w1).1 h).size;omega
 have HX0:Hid (BX (((w.alloc (.cells #[.string x.name,.slice b1 x.ins.length c1,.slice b2 x.outs.length c2,.slice b3 x.vars.length c3,.slice b4 n4 c4] 42)).alloc (.cells #[.slice l1 lhs.length zn,.slice l2 code.length zx,.string cl,.slice l3 args.length zy] 48)).alloc (.cells #[] 9))):=(ku _).2 ((Below.refl _ _).alloc (by omega) _)
 have HO0:Hid (iw zh (((w.alloc (.cells #[.string x.name,.slice b1 x.ins.length c1,.slice b2 x.outs.length c2,.slice b3 x.vars.length c3,.slice b4 n4 c4] 42)).alloc (.cells #[.slice l1 lhs.length zn,.slice l2 code.length zx,.string cl,.slice l3 args.length zy] 48)).alloc (.cells #[] 9)) (w.heap.size+2) (.slice (some ⟨w.heap.size+2,0,none⟩) 0 0) []):=by
  have:=iw.start (E:=zh) ((w.alloc (.cells #[.string x.name,.slice b1 x.ins.length c1,.slice b2 x.outs.length c2,.slice b3 x.vars.length c3,.slice b4 n4 c4] 42)).alloc (.cells #[.slice l1 lhs.length zn,.slice l2 code.length zx,.string cl,.slice l3 args.length zy] 48)) (w.heap.size+2) (by omega)
  rw[hAz] at this
  exact this
 clear hA hAz hBN hBI ku
 go_enter Tryz.func24,Tryz.ntmps24
 go_wp2
 go_loopg [5,20] lhs.length (fun g nm i wr=>∃(k:Nat),k<=lhs.length∧g=lhs.length-k∧i=.int .i64 k∧iw zh wr (w.heap.size+2) nm (Gs (aj x) lhs k)∧BX wr)
 case atStart=>exact⟨0,Nat.zero_le _,by omega,rfl,uh HO0,uh HX0⟩
 case round =>
  obtain⟨k,hk,hg,rfl,hown,hbx⟩:=hrel
  rename World=>wN
  have HG:=hide hg
  have HOW:=hide hown
  have tu:=hide hbx
  obtain⟨s1,s2,s3,s4,s5,s6,s7,s8,s9⟩:=uh Bf wN hbx
  clear hg
  by_cases hlt:k<lhs.length
  ·obtain⟨b,o,cs,jr,_,hb,hcs,hc0,hR⟩:=(show ∃b o cs,l1=some ⟨b,o,none⟩∧0<=b∧b<w.heap.size∧cs.length=1∧(∀j (hj:j<cs.length),w.cell? ⟨b,o+k*1+j,none⟩=some cs[j])∧Cc 0 w cs lhs[k] from by
    obtain⟨a,cap,hv,_,_,hx⟩:=uh H1
    simp only[Value.slice.injEq] at hv
    obtain⟨rfl,_,_⟩:=hv
    exact hx k hlt)
   subst jr
   obtain⟨rfl,hsn⟩:=hR
   have r0:wN.cell? ⟨b,o+k,none⟩=some (.string lhs[k]):=by
    rw[(uh jy wN hbx).cell (p:=⟨b,_,none⟩) hb]
    simpa using hc0 0 (by simp)
   have HC:=hide (uh E5 lhs[k] wN (uh jy wN hbx))
   have hk8:=uh HK8 lhs[k]
   have anb:=uh Gv k
   have HST:Hid (Gs (aj x) lhs (k+1)=Gs (aj x) lhs k++(jv (aj x) lhs[k]).map (·.name)):=by
    show Gs (aj x) lhs (k+1)=_
    rw[Gs,List.getElem?_eq_getElem hlt]
   clear hc0 hcs hown hbx
   generalize jv (aj x) lhs[k]=ks at *
   generalize lhs[k]=nm at *
   generalize Gs (aj x) lhs k=ns0 at *
   obtain⟨aN,cN,rfl⟩:=(uh HOW).slice
   go_wp2_with fail
   refine(uh HC).mono ?_
   rintro e w1 ⟨ckv,rfl,hck,hb1⟩
   have a15:=hide (uh Bq _ _ (uh tu) hb1)
   have asb:=hide ((uh HOW).below hb1)
   obtain⟨ac,cc,rfl⟩:=hck.shape
   obtain⟨_,_,hkv,_,hkn,hkx⟩:=hck
   simp only[Value.slice.injEq] at hkv
   obtain⟨rfl,_,rfl⟩:=hkv
   have HKX:=hide hkx
   clear hkx hkn hb1 s1 s2 s3 s4 s5 s6 s7 s8 s9 r0 HC
   go_wp2
   go_loopg [5,28] ks.length (fun g nm2 i wr=>∃(m:Nat),m<=ks.length∧g=ks.length-m∧i=.int .i64 m∧iw zh wr (w.heap.size+2) nm2 (ns0++(ks.take m).map (·.name))∧BX wr)
   case atStart=>exact⟨0,Nat.zero_le _,by omega,rfl,by simpa using uh asb,uh a15⟩
   case round =>
    obtain⟨m,hm,hgm,rfl,Ub,Di⟩:=hrel
    rename World=>wM
    have Hy:=hide hgm
    have U8:=hide Ub
    have Az:=hide Di
    clear hgm
    by_cases Aj:m<ks.length
    ·obtain⟨bq,oq,cq,jr,_,hbq,hcq,hc1,hRq⟩:=uh HKX m Aj
     subst jr
     obtain⟨rfl,hsq⟩:=hRq
     have hc2:∀j (hj:j<2),wM.cell? ⟨bq,oq+m*2+j,none⟩=some _:=fun j hj=>by rw[(uh jy wM Di).cell (p:=⟨bq,_,none⟩) hbq];exact hc1 j hj
     have q0:=hc2 0 (by simp)
     have q1:=hc2 1 (by simp)
     simp only[Nat.add_zero,List.getElem_cons_zero,List.getElem_cons_succ] at q0 q1
     have HMP:=hide (awt ks m Aj)
     have hlen:(ns0++(ks.take m).map (·.name)).length<=10000:=by rw[List.length_append,List.length_map,List.length_take];omega
     have hal:Below wM.heap.size wM ((wM.alloc (.cells #[.string ks[m].name,.bool ks[m].on] 94)).alloc (.cells #[.string ks[m].name] 9)):=((Below.refl _ _).alloc (Nat.le_refl _) _).alloc (by simp) _
     have W9:=hide ((uh U8).below hal)
     have HXA:=hide (uh Bq _ _ Di hal)
     have HSA:=hide (uh Vu _ Di)
     have X7:Hid (ns0++(ks.take (m+1)).map (·.name)=ns0++(ks.take m).map (·.name)++[ks[m].name]):=by
      show _=_
      rw[uh HMP,List.append_assoc]
     clear hc1 hc2 hcq Ub Di hal HMP
     generalize ks[m].name=cn at *
     generalize ks[m].on=con at *
     generalize ns0++(ks.take m).map (·.name)=ys at *
     obtain⟨aY,cY,rfl⟩:=(uh U8).slice
     go_wp2_with (at_builtin;go_must (refine Du zh _ rfl _ _ rfl (w.heap.size+2) _ ys rfl (uh W9) (wM.heap.size+1) cn rfl (fun j u hu=>by rw[World.cell?_alloc_at _ _ _ _ (by simp)];simpa[zh] using hu) (by simp[zh];omega) (by have:=uh HSA;simp at this ⊢;omega) ?_))
     intro v9 w9 Jp Ku
     have HO9:=hide Jp
     have HX9:=hide (uh HX3 _ _ _ _ (uh HXA) (uh W9) Ku)
     clear Jp Ku
     go_wp2
     go_roundg (ks.length-(m+1))
     case measure=>have:=uh Hy;omega
     case rel=>exact⟨m+1,by omega,rfl,by go_num,by rw[uh X7];exact uh HO9,uh HX9⟩
    ·have e:m=ks.length:=by omega
     subst e
     have hE:=uh U8
     rw[List.take_length,←uh HST] at hE
     have HE:=hide hE
     clear hE
     go_wp2
     go_roundg (lhs.length-(k+1))
     case measure=>have:=uh HG;omega
     case rel=>exact⟨k+1,by omega,rfl,by go_num,uh HE,uh Az⟩
  ·have e:k=lhs.length:=by omega
   subst e
   have anb:=uh Gv lhs.length
   generalize Gs (aj x) lhs lhs.length=pre at *
   have HC:=hide (uh Ov wN (uh jy wN hbx) (.slice l1 lhs.length zn))
   obtain⟨aN,cN,rfl⟩:=(uh HOW).slice
   clear hown hbx
   go_wp2_with fail
   refine(uh HC).mono ?_
   rintro e w1 ⟨vc,rfl,Kt,hcd2,hb1⟩
   have HXW:=hide (uh Bq _ _ (uh tu) hb1)
   have asb:=hide ((uh HOW).below hb1)
   obtain⟨av,cv,rfl⟩:=Kt.shape
   have H6:Hid (∀wr m (hm:m<iy.length),BX wr->(m=0->wr=w1)->∃ba oa va,av=some ⟨ba,oa,none⟩∧wr.cell? ⟨ba,oa+m,none⟩=some va∧bf 3 32 jw 0 w va iy[m]):=by
    intro wr m hm hbx hm0
    by_cases hz:m=0
    ·obtain rfl:=(hm0 hz).symm
     obtain⟨a,cap,hv,_,_,hx⟩:=Kt
     simp only[Value.slice.injEq] at hv
     obtain⟨rfl,_,_⟩:=hv
     obtain⟨ba,oa,Le,jr,_,hba,Gx,hca,⟨va,rfl,hE⟩⟩:=hx m hm
     exact⟨ba,oa,va,jr,by simpa using hca 0 (by simp),hE⟩
    ·obtain⟨a,cap,hv,_,_,hx⟩:=hcd2 (by omega)
     simp only[Value.slice.injEq] at hv
     obtain⟨rfl,_,_⟩:=hv
     obtain⟨ba,oa,Le,jr,_,hba,Gx,hca,⟨va,rfl,hE⟩⟩:=hx m hm
     exact⟨ba,oa,va,jr,by rw[(uh jy wr hbx).cell (p:=⟨ba,_,none⟩) hba];simpa using hca 0 (by simp),hE⟩
   clear Kt hcd2 hb1 s1 s2 s3 s4 s5 s6 s7 s8 s9 HC Ov E5
   go_wp2
   go_loopg [5,42] iy.length (fun g nm i wr=>∃(m:Nat),m<=iy.length∧g=iy.length-m∧i=.int .i64 m∧iw zh wr (w.heap.size+2) nm (pre++wz iy m)∧BX wr∧(m=0->wr=w1))
   case atStart=>exact⟨0,Nat.zero_le _,by omega,rfl,by simpa[wz] using uh asb,uh HXW,fun _=>rfl⟩
   case round =>
    obtain⟨m,hm,hgm,rfl,Ub,Di,hm0⟩:=hrel
    rename World=>wM
    have Hy:=hide hgm
    have U8:=hide Ub
    have Az:=hide Di
    clear hgm
    by_cases Aj:m<iy.length
    ·obtain⟨ba,oa,va,jr,r0,hE⟩:=uh H6 wM m Aj Di hm0
     subst jr
     obtain⟨be,ce,rfl⟩:=hE.shape
     have nE:=hE.len'
     have HE:=hide hE
     have hc3:=uh Ot iy[m] (List.getElem_mem Aj)
     have hvl:=uh HVL m
     have ana:m*3000<=500*3000:=Nat.mul_le_mul_right _ (by omega)
     have Vt:Hid (wz iy (m+1)=wz iy m++Dw iy[m] iy[m].length):=by
      show wz iy (m+1)=_
      rw[wz,List.getElem?_eq_getElem Aj]
     have hlp:(pre++wz iy m).length<=1600000:=by rw[List.length_append];omega
     have HPS:Hid (pre++wz iy (m+1)=pre++wz iy m++Dw iy[m] iy[m].length):=by
      show _=_
      rw[uh Vt,List.append_assoc]
     have Kz:=hide (fun wr (hb:BX wr) j (hj:j<=iy[m].length)=>Gp iy[m] j hj _ wr (hE.stays je (uh jy wr hb)))
     clear hE Ub Di hm0 Vt hvl ana
     generalize iy[m]=el at *
     generalize pre++wz iy m=ys0 at *
     obtain⟨aY,cY,rfl⟩:=(uh U8).slice
     have ahe:(m:Int)<(iy.length:Int):=by omega
     go_wp2
     go_loopg [5,48] el.length (fun g nm i wr=>∃(q:Nat),q<=el.length∧g=el.length-q∧i=.int .i64 q∧iw zh wr (w.heap.size+2) nm (ys0++Dw el q)∧BX wr)
     case atStart=>exact⟨0,Nat.zero_le _,by omega,rfl,by simpa[Dw] using uh U8,uh Az⟩
     case round =>
      obtain⟨q,hq,hgq,rfl,anc,Jm⟩:=hrel
      rename World=>wQ
      have HGQ:=hide hgq
      have HOQ:=hide anc
      have Ik:=hide Jm
      clear hgq
      by_cases Y0:q<el.length
      ·obtain⟨bi,oi,ci,jr,_,hbi,hci,hc1,hRi⟩:=(show ∃b' o' cs',be=some ⟨b',o',none⟩∧0<=b'∧b'<w.heap.size∧cs'.length=3∧(∀j (hj:j<cs'.length),w.cell? ⟨b',o'+q*3+j,none⟩=some cs'[j])∧jw 0 w cs' el[q] from by
        obtain⟨a,cap,hv,_,_,hx⟩:=uh HE
        simp only[Value.slice.injEq] at hv
        obtain⟨rfl,_,_⟩:=hv
        exact hx q Y0)
       subst jr
       obtain⟨rfl,hsi,hoi,Xy⟩:=hRi
       have hc2:∀j (hj:j<3),wQ.cell? ⟨bi,oi+q*3+j,none⟩=some _:=fun j hj=>by rw[(uh jy wQ Jm).cell (p:=⟨bi,_,none⟩) hbi];exact hc1 j hj
       have q0:=hc2 0 (by simp)
       have q1:=hc2 1 (by simp)
       have q2:=hc2 2 (by simp)
       simp only[Nat.add_zero,List.getElem_cons_zero,List.getElem_cons_succ] at q0 q1 q2
       have hvt:=ail el q
       have hlq:(ys0++Dw el q).length<=1700000:=by rw[List.length_append];omega
       have HVO:Hid (∀r,Hz el q=r->ys0++Dw el (q+1)=ys0++Dw el q++r):=fun r hr=>by rw[Dw,hr,List.append_assoc]
       have hva:Hz el q=if el[q].name.size=0 then [] else if Yz el q then [] else [el[q].name]:=by
        unfold Hz
        rw[List.getElem?_eq_getElem Y0]
       have Gg:Hid (Below wQ.heap.size wQ (wQ.alloc (.cells #[.int .i64 el[q].op,.int .i64 el[q].val,.string el[q].name] 97))):=(Below.refl _ _).alloc (Nat.le_refl _) _
       have HXQ:=hide (uh Bq _ _ Jm (uh Gg))
       have ain:=hide ((uh HOQ).below (uh Gg))
       have a4e:(q:Int)<(el.length:Int):=by omega
       clear hc1 hc2 hci anc Jm
       generalize ys0++Dw el q=ys at *
       obtain⟨aQ,cQ,rfl⟩:=(uh HOQ).slice
       by_cases hz:el[q].name.size=0
       ·have HF:=hide (uh HVO [] (by rw[hva,if_pos hz]))
        have d4:=Aa _ hz
        have Ij:=xg _ hz
        clear hva HVO hz
        generalize el[q].name=iname at *
        generalize el[q].op=iop at *
        generalize el[q].val=ival at *
        go_wp2
        go_roundg (el.length-(q+1))
        case measure=>have:=uh HGQ;omega
        case rel=>exact⟨q+1,by omega,rfl,by go_num,by rw[uh HF,List.append_nil];exact uh ain,uh HXQ⟩
       ·rw[if_neg hz] at hva
        have HVA:=hide hva
        have d4:=Ae _ hz
        have Ij:=vk _ hz
        have Zn:=hide hsi
        clear hva hz hsi hoi Xy
        have HJ:Hid (∀d,(hd:q+1+d<el.length)->w.cell? ⟨bi,oi+(q+1+d)*3,none⟩=some (.int .i64 el[q+1+d].op)):=fun d hd=>by
         obtain⟨a,cap,hv,_,_,hx⟩:=uh HE
         simp only[Value.slice.injEq] at hv
         obtain⟨rfl,_,_⟩:=hv
         obtain⟨b5,o5,c5,hb5,_,hb6,hc5,hc6,⟨rfl,_⟩⟩:=hx (q+1+d) hd
         simp only[Option.some.injEq,Addr.mk.injEq] at hb5
         obtain⟨rfl,rfl,_⟩:=hb5
         simpa using hc6 0 (by simp)
        generalize el[q].name=iname at *
        generalize el[q].op=iop at *
        generalize el[q].val=ival at *
        have Rq:Hid (∀j,(wQ.alloc (.cells #[.int .i64 iop,.int .i64 ival,.string iname] 97)).cell? ⟨wQ.heap.size,j,none⟩=#[Value.int .i64 iop,.int .i64 ival,.string iname][j]?):=fun j=>World.cell?_alloc_at _ _ _ _ rfl
        go_wp2
        generalize hwA:wQ.alloc (.cells #[.int .i64 iop,.int .i64 ival,.string iname] 97)=wA at *
        clear hwA
        go_loopg [14,15] (el.length-(q+1)) (fun g hb j wr=>∃(d:Nat),d<=el.length-(q+1)∧g=el.length-(q+1)-d∧j=.int .i64 ((q+1+d:Nat):Int)∧hb=.bool (Qz el q d)∧wr=wA)
        case atStart=>exact⟨0,Nat.zero_le _,by omega,by go_num,rfl,rfl⟩
        case round =>
         obtain⟨d,hd,hgd,rfl,rfl,hw9⟩:=hrel
         obtain rfl:=hw9.symm
         have HGD:=hide hgd
         have HDQ:=hide hd
         have hxa:=uh HXQ
         clear hgd
         by_cases ane:q+1+d<el.length
         ·have p0:wA.cell? ⟨bi,oi+(q+1+d)*3,none⟩=some (.int .i64 el[q+1+d].op):=by
           rw[(uh jy wA hxa).cell (p:=⟨bi,_,none⟩) hbi]
           exact uh HJ d ane
          have HB1:=hide (uh Kz wA hxa (q+1+d) (by omega))
          have HHS:Hid (Qz el q (d+1)=(Qz el q d||(F8 el[q+1+d].op&&decide (Gz (el.take (q+1+d))<=(q:Int))))):=by
           show Qz el q (d+1)=_
           rw[Qz,List.getElem?_eq_getElem ane]
          have a01:((q+1+d:Nat):Int)<(el.length:Int):=by omega
          have hj0:(0:Int)<=((q+1+d:Nat):Int):=by omega
          generalize el[q+1+d].op=jop at *
          generalize Gz (el.take (q+1+d))=bgj at *
          obtain⟨jj,hjj⟩:∃jj,jj=q+1+d:=⟨_,rfl⟩
          rw[←hjj] at p0 HB1 a01 hj0
          rw[←hjj]
          have HJJ:=hide hjj
          have hjl:jj<el.length:=by omega
          clear hjj ane hxa
          have U5:=hide (Qg jop wA)
          cases hf:F8 jop
          ·rw[hf] at U5 HHS
           rw[Bool.false_and,Bool.or_false] at HHS
           go_wp2_with fail
           refine(uh U5).mono ?_
           rintro e w9 ⟨rfl,h9⟩
           obtain rfl:=h9.symm
           go_wp2
           go_roundg (el.length-(q+1)-(d+1))
           case measure=>have:=uh HGD;have:=uh HJJ;omega
           case rel=>exact⟨d+1,by have:=uh HJJ;omega,rfl,int_eq (by have:=uh HJJ;omega),by rw[uh HHS],rfl⟩
          ·rw[hf] at U5 HHS
           rw[Bool.true_and] at HHS
           by_cases hle:bgj<=(q:Int)
           ·have dl:decide (bgj<=(q:Int))=true:=decide_eq_true hle
            rw[dl,Bool.or_true] at HHS
            go_wp2_with fail
            refine(uh U5).mono ?_
            rintro e w9 ⟨rfl,h9⟩
            obtain rfl:=h9.symm
            go_wp2_with fail
            refine(uh HB1).mono ?_
            rintro e w8 ⟨rfl,h8⟩
            obtain rfl:=h8.symm
            go_wp2
            go_roundg (el.length-(q+1)-(d+1))
            case measure=>have:=uh HGD;have:=uh HJJ;omega
            case rel=>exact⟨d+1,by have:=uh HJJ;omega,rfl,int_eq (by have:=uh HJJ;omega),by rw[uh HHS],rfl⟩
           ·have dl:decide (bgj<=(q:Int))=false:=decide_eq_false hle
            rw[dl,Bool.or_false] at HHS
            go_wp2_with fail
            refine(uh U5).mono ?_
            rintro e w9 ⟨rfl,h9⟩
            obtain rfl:=h9.symm
            go_wp2_with fail
            refine(uh HB1).mono ?_
            rintro e w8 ⟨rfl,h8⟩
            obtain rfl:=h8.symm
            go_wp2
            go_roundg (el.length-(q+1)-(d+1))
            case measure=>have:=uh HGD;have:=uh HJJ;omega
            case rel=>exact⟨d+1,by have:=uh HJJ;omega,rfl,int_eq (by have:=uh HJJ;omega),by rw[uh HHS],rfl⟩
         ·have hde:d=el.length-(q+1):=by omega
          have hjd:¬((q+1+d:Nat):Int)<(el.length:Int):=by omega
          have hhb:Qz el q d=Yz el q:=by rw[hde];rfl
          rw[hhb]
          obtain⟨jj,hjj⟩:∃jj,jj=q+1+d:=⟨_,rfl⟩
          rw[←hjj] at hjd
          rw[←hjj]
          have n2:=uh Rq 2
          have n2':wA.cell? ⟨wQ.heap.size,2,none⟩=some (.string iname):=n2.trans rfl
          have hlA:=uh Vu _ hxa
          clear hjj hhb hde ane n2
          cases hh:Yz el q
          ·have hV:=uh HVA
           rw[hh] at hV
           have HF:=hide (uh HVO _ hV)
           have W9:Hid (iw zh (wA.alloc (.cells #[.string iname] 9)) (w.heap.size+2) (.slice aQ ys.length cQ) ys):=(uh ain).below ((Below.refl _ _).alloc (Nat.le_refl _) _)
           have HXA:=hide (uh Bq _ _ hxa ((Below.refl _ wA).alloc (Nat.le_refl _) (.cells #[.string iname] 9)))
           have HSA:=hide hlA
           clear hV HVA HVO hh hlA hxa
           go_wp2_with (at_builtin;go_must (refine Du zh _ rfl _ _ rfl (w.heap.size+2) _ ys rfl (uh W9) wA.heap.size iname rfl (fun j u hu=>by rw[World.cell?_alloc_at _ _ _ _ (by simp)];simpa[zh] using hu) (by simp[zh];omega) (by have:=uh HSA;simp at this ⊢;omega) ?_))
           intro v9 w9 Jp Ku
           have HO9:=hide Jp
           have HX9:=hide (uh HX3 _ _ _ _ (uh HXA) (uh W9) Ku)
           clear Jp Ku
           go_wp2
           go_roundg (el.length-(q+1))
           case measure=>have:=uh HGQ;omega
           case rel=>exact⟨q+1,by omega,rfl,by go_num,by rw[uh HF];exact uh HO9,uh HX9⟩
          ·have hV:=uh HVA
           rw[hh] at hV
           have HF:=hide (uh HVO _ hV)
           clear hV HVA HVO hh hxa hlA
           go_wp2
           go_roundg (el.length-(q+1))
           case measure=>have:=uh HGQ;omega
           case rel=>exact⟨q+1,by omega,rfl,by go_num,by rw[uh HF];simpa using uh ain,uh HXQ⟩
      ·have e:q=el.length:=by omega
       subst e
       have hF:=uh HOQ
       rw[←uh HPS] at hF
       have HF:=hide hF
       clear hF anc Jm
       go_wp2
       go_roundg (iy.length-(m+1))
       case measure=>have:=uh Hy;omega
       case rel=>exact⟨m+1,by omega,rfl,by go_num,uh HF,uh Ik,fun h=>by omega⟩
    ·have e:m=iy.length:=by omega
     subst e
     have hvl:=uh HVL iy.length
     have ana:iy.length*3000<=500*3000:=Nat.mul_le_mul_right _ (by omega)
     have hF:=uh U8
     rw[←uh Oh] at hF
     have hlr:res.length<=1600000:=by rw[uh Oh,List.length_append];omega
     have HF:=hide (hF.a14 (lo:=w.heap.size) (by omega) (fun z hz=>⟨rfl,uh HNL z hz⟩) (by omega))
     have HB:=hide (uh jy _ Di)
     clear hF Ub Di hvl ana
     go_wp2
     go_ret
     exact⟨_,rfl,uh HF,uh HB⟩
end Go.Proofs.YtflcnhfakcgkeaaGreat
