import Derived.Test.YtlcgnbcgmljpaaaGreatMapF
import Derived.Test.YtlcgnbcgmljpaaaGreatCodeB
import Derived.Test.YtlcgnbcgmljpaaaGreatM2
namespace Go.Proofs.YtlcgnbcgmljpaaaGreat
open Go.RowKit
set_option linter.unusedSimpArgs false
set_option linter.unusedVariables false
theorem Ak {x s:ByteArray}:(x.toList == s.toList)=decide (x=s):=by
 rw[Bool.eq_iff_iff,beq_iff_eq,decide_eq_true_iff,ByteArray.toList_eq,ByteArray.toList_eq]
 exact⟨fun h=>bytes_eq h,fun h=>by rw[h]⟩
theorem Ya (l:List ByteArray) (s:ByteArray):iy l s<0↔∀x,x∈l->x≠s:=by
 unfold iy
 cases h:l.findIdx? (fun x=>x.toList == s.toList) with
 | none =>
  rw[List.findIdx?_eq_none_iff] at h
  simp only[Ak,decide_eq_false_iff_not] at h
  exact⟨fun _=>h,fun _=>by simp⟩
 | some i =>
  obtain⟨hi,h1,_⟩:=List.findIdx?_eq_some_iff_getElem.1 h
  rw[Ak,decide_eq_true_iff] at h1
  exact⟨fun h2=>absurd h2 (by simp),fun h2=>absurd h1 (h2 _ (List.getElem_mem hi))⟩
theorem aoi (l:List ByteArray) (s x:ByteArray) (h:iy l s<0):iy (l++[s]) x=if x=s then (l.length:Int) else iy l x:=by
 by_cases e:x=s
 ·subst e
  rw[if_pos rfl]
  refine agi (l++[x]) l.length x (by simp) (by simp) (fun j hj hjk=>?_)
  rw[List.getElem_append_left hjk,Ak,decide_eq_false_iff_not]
  exact(Ya l x).1 h _ (List.getElem_mem hjk)
 ·rw[if_neg e]
  unfold iy
  rw[List.findIdx?_append]
  have:[s].findIdx? (fun y=>y.toList == x.toList)=none:=by
   rw[List.findIdx?_eq_none_iff]
   intro y hy
   rw[List.mem_singleton] at hy
   subst hy
   rw[Ak,decide_eq_false_iff_not]
   exact fun h=>e h.symm
  rw[this]
  simp
def vk (l:List ByteArray):ByteArray->Option Value:=fun s=>if 0<=iy l s then some (.int .i64 (iy l s)) else none
theorem aoj (l:List ByteArray) (s:ByteArray) (h:iy l s<0):Yg (vk l) s (.int .i64 l.length)=vk (l++[s]):=by
 funext x
 unfold vk Yg
 rw[aoi l s x h]
 by_cases e:x=s
 ·rw[if_pos e,if_pos e,if_pos (by omega)]
 ·rw[if_neg e,if_neg e]
theorem aok (l:List ByteArray) (s:ByteArray):aah (vk l) s=(decide (iy l s<0)&&nameB s):=by
 unfold aah vk
 split
 ·rw[decide_eq_false (by omega)];rfl
 ·rw[decide_eq_true (by omega)];rfl
theorem aaf (l:List ByteArray) (s:ByteArray) (h:0<=iy l s):vk l s=some (.int .i64 (iy l s)):=if_pos h
theorem Yf (l:List ByteArray) (s:ByteArray) (h:iy l s<0):vk l s=none:=if_neg (by omega)
def Iy (l:List ByteArray) (s:ByteArray):Bool:=decide (iy l s<0)&&nameB s
def aai (l:List ByteArray) (t:gy):Bool:=decide (t.type=1∨t.type=2)&&Iy l t.name
def al4 (ok:Bool) (l:List ByteArray) (s:ByteArray) (mb:Nat) (w:World) (e:Ending) (w':World):Prop :=
 e=.returned (.bool ok)∧(ok=true->Ba w' mb (l.length+1) (vk (l++[s]))∧But [mb] w w')∧(ok=false->Below w.heap.size w w')
theorem Ep {a b:Bool} (h:a=b):Ending.returned (Value.bool a)=.returned (.bool b):=by rw[h]
theorem ae1 (pb mb:Nat) (l:List ByteArray) (s:ByteArray) (w:World) (hs:Len s.size) (hn:l.length<=2000) (hc:w.cell? ⟨pb,1,none⟩=some (.map (some mb))) (hM:Ba w mb l.length (vk l)) :
  Calls Tryz.prog 108 #[.pointer (some ⟨pb,0,none⟩),.string s] w (al4 (Iy l s) l s mb w):=by
 refine(aol pb mb l.length (vk l) s w hs hn hc hM).mono ?_
 rintro e w' ⟨rfl,h1,h2⟩
 rw[aok] at h1 h2 ⊢
 refine⟨rfl,fun h=>?_,h2⟩
 obtain⟨g1,g2⟩:=h1 h
 have:iy l s<0:=by
  unfold Iy at h
  rw[Bool.and_eq_true] at h
  exact of_decide_eq_true h.1
 rw[aoj l s this] at g1
 exact⟨g1,g2⟩
set_option maxHeartbeats 1000000 in
theorem aom (pb mb:Nat) (l:List ByteArray) (t:gy) (w:World) (hs:Len t.name.size) (hn:l.length<=2000) (hc:w.cell? ⟨pb,1,none⟩=some (.map (some mb))) (hM:Ba w mb l.length (vk l)) :
  Calls Tryz.prog 106 #[.pointer (some ⟨pb,0,none⟩),.agg #[.string t.name,.int .i64 t.type]] w (al4 (aai l t) l t.name mb w):=by
 have hA:Below w.heap.size w (w.alloc (.cells #[.string t.name,.int .i64 t.type] 79)):=(Below.refl _ _).alloc (Nat.le_refl _) _
 have c1:(w.alloc (.cells #[.string t.name,.int .i64 t.type] 79)).cell? ⟨pb,1,none⟩=some (.map (some mb)):=by rw[hA.cell (p:=⟨pb,1,none⟩) (World.block_lt_of_cell? w _ hc)];exact hc
 have HN:=hide (ae1 pb mb l t.name _ hs hn c1 (hM.below hA hM.lt))
 have HT:=hide (fun w=>aqp t.type w)
 have HA:=hide hA
 have HS:Hid (aai l t=(decide (t.type=1∨t.type=2)&&Iy l t.name)):=rfl
 clear c1 hA hM
 generalize aai l t=R at *
 generalize Iy l t.name=nb at *
 generalize decide (t.type=1∨t.type=2)=tb at *
 obtain⟨nm,ty⟩:=t
 simp only at *
 cases tb
 ·have e:R=false:=(uh HS).trans (Bool.false_and _)
  subst e
  go_enter Tryz.func106,Tryz.ntmps106
  go_wp2_with fail
  refine(uh HT _).mono ?_
  rintro e w1 ⟨rfl,rfl⟩
  go_wp2
  go_ret
  exact⟨rfl,(fun h=>by cases h),fun _=>uh HA⟩
 ·have e:R=nb:=(uh HS).trans (Bool.true_and _)
  subst e
  go_enter Tryz.func106,Tryz.ntmps106
  go_wp2_with fail
  refine(uh HT _).mono ?_
  rintro e w1 ⟨rfl,rfl⟩
  go_wp2_with fail
  refine(uh HN).mono ?_
  rintro e w1 ⟨rfl,h1,h2⟩
  have H1:=hide h1
  have H2:=hide h2
  clear h1 h2
  go_wp2
  go_ret
  refine⟨rfl,fun h=>?_,fun h=>(uh HA).trans ((uh H2 h).mono (uh HA).size)⟩
  obtain⟨g1,g2⟩:=uh H1 h
  exact⟨g1,(But.of_below (uh HA)).trans g2⟩
structure CA (w:World) (cb co:Nat) (k:ak) (a1 a2 a3 a4 a5 a6:Value):Prop where
 lt:cb<w.heap.size
 c0:w.cell? ⟨cb,co,none⟩=some (.string k.name)
 c1:w.cell? ⟨cb,co+1,none⟩=some a1
 c2:w.cell? ⟨cb,co+2,none⟩=some a2
 c3:w.cell? ⟨cb,co+3,none⟩=some a3
 c4:w.cell? ⟨cb,co+4,none⟩=some a4
 c5:w.cell? ⟨cb,co+5,none⟩=some a5
 c6:w.cell? ⟨cb,co+6,none⟩=some a6
 name:Len k.name.size
 ins:bf 2 24 xk 0 w a1 k.ins
 outs:bf 2 24 xk 0 w a2 k.outs
 ay:bf 1 16 uz 0 w a3 k.ay
 aj:bf 1 8 yu 0 w a4 k.aj
 insts:bf 1 8 yu 0 w a5 k.insts
 body:bf 6 104 Ec 0 w a6 k.body
theorem CA.stays {w w':World} {cb co:Nat} {k:ak} {a1 a2 a3 a4 a5 a6:Value} (h:CA w cb co k a1 a2 a3 a4 a5 a6) (hb:Below w.heap.size w w'):CA w' cb co k a1 a2 a3 a4 a5 a6:=by
 have hc:∀j,w'.cell? ⟨cb,j,none⟩=w.cell? ⟨cb,j,none⟩:=fun j=>hb.cell (p:=⟨cb,j,none⟩) h.lt
 exact⟨Nat.lt_of_lt_of_le h.lt hb.size,(hc _).trans h.c0,(hc _).trans h.c1,(hc _).trans h.c2,(hc _).trans h.c3,(hc _).trans h.c4,(hc _).trans h.c5,(hc _).trans h.c6,h.name,h.ins.stays jq hb,h.outs.stays jq hb,h.ay.stays lu hb,h.aj.stays jy hb,h.insts.stays jy hb,h.body.stays xu hb⟩
def Gz (pre:List ByteArray) (xs:List gy) (j:Nat):Bool:=match xs[j]? with|some t=>aai (pre++(xs.take j).map gy.name) t|none=>false
def Kw (pre:List ByteArray) (xs:List ByteArray) (j:Nat):Bool:=match xs[j]? with|some s=>Iy (pre++xs.take j) s|none=>false
theorem ajq (pb mb:Nat) (pre:List ByteArray) (xs:List gy) (v:Value) (W0 w:World) (hv:bf 2 24 xk 0 W0 v xs) (hW:Below W0.heap.size W0 w) (hmb:W0.heap.size<=mb) (hpb:pb≠mb) (hn:pre.length+xs.length<=2000) (hc:w.cell? ⟨pb,1,none⟩=some (.map (some mb))) (hM:Ba w mb pre.length (vk pre)) :
  Calls Tryz.prog 105 #[v,.func (.func 106) #[.pointer (some ⟨pb,0,none⟩)] #[]] w fun e w'=>e=.returned (.bool ((List.range xs.length).all (Gz pre xs)))∧((List.range xs.length).all (Gz pre xs)=true->Ba w' mb (pre.length+xs.length) (vk (pre++xs.map gy.name)))∧But [mb] w w':=by
 have hpl:pb<w.heap.size:=World.block_lt_of_cell? w _ hc
 refine(aon pb (fun k wr=>Ba wr mb (pre.length+min k xs.length) (vk (pre++(xs.take k).map gy.name))∧But [mb] w wr) (fun wr=>But [mb] w wr) (Gz pre xs) xs v w ?_ ?_ ?_ ?_).mono ?_
 ·rintro k wr ⟨_,hb⟩
  exact hv.stays jq (hW.trans (hb.below _ hW.size (fun q hq=>by rw[List.mem_singleton] at hq;omega)))
 ·rintro k w1 w2 ⟨h1,h2⟩ hb
  exact⟨h1.below hb h1.lt,h2.trans (But.of_below hb)⟩
 ·rintro k hk cs wr ⟨h1,h2⟩ hR
  have hc':wr.cell? ⟨pb,1,none⟩=some (.map (some mb)):=by rw[h2.cell (p:=⟨pb,1,none⟩) hpl (by simpa using hpb)];exact hc
  obtain⟨rfl,hs,_⟩:=hR
  have hl:(pre++(xs.take k).map gy.name).length=pre.length+min k xs.length:=by simp
  have:=aom pb mb (pre++(xs.take k).map gy.name) xs[k] wr hs (by rw[hl];omega) hc' (by rw[hl];exact h1)
  refine this.mono ?_
  rintro e w' ⟨rfl,g1,g2⟩
  have hq:Gz pre xs k=aai (pre++(xs.take k).map gy.name) xs[k]:=by unfold Gz;rw[List.getElem?_eq_getElem hk]
  rw[hq]
  refine⟨rfl,fun h=>?_,fun h=>h2.trans (But.of_below (g2 h))⟩
  obtain⟨r1,r2⟩:=g1 h
  refine⟨?_,h2.trans r2⟩
  rw[hl] at r1
  have e1:pre.length+min k xs.length+1=pre.length+min (k+1) xs.length:=by omega
  rw[e1] at r1
  have e2:pre++List.map gy.name (List.take k xs)++[xs[k].name]=pre++List.map gy.name (List.take (k+1) xs):=by
   rw[List.take_succ_eq_append_getElem hk,List.map_append,List.append_assoc];rfl
  rw[e2] at r1
  exact r1
 ·simpa using ⟨hM,But.refl _ _⟩
 ·rintro e w' ⟨rfl,h1,h2⟩
  refine⟨rfl,fun h=>?_,?_⟩
  ·have:=(h1 h).1
   simpa using this
  ·cases hh:(List.range xs.length).all (Gz pre xs)
   ·exact h2 hh
   ·exact(h1 hh).2
theorem aut (pb mb:Nat) (pre:List ByteArray) (xs:List ByteArray) (v:Value) (W0 w:World) (hv:bf 1 16 uz 0 W0 v xs) (hW:Below W0.heap.size W0 w) (hmb:W0.heap.size<=mb) (hpb:pb≠mb) (hn:pre.length+xs.length<=2000) (hc:w.cell? ⟨pb,1,none⟩=some (.map (some mb))) (hM:Ba w mb pre.length (vk pre)) :
  Calls Tryz.prog 107 #[v,.func (.func 108) #[.pointer (some ⟨pb,0,none⟩)] #[]] w fun e w'=>e=.returned (.bool ((List.range xs.length).all (Kw pre xs)))∧((List.range xs.length).all (Kw pre xs)=true->Ba w' mb (pre.length+xs.length) (vk (pre++xs)))∧But [mb] w w':=by
 have hpl:pb<w.heap.size:=World.block_lt_of_cell? w _ hc
 refine(aoo pb (fun k wr=>Ba wr mb (pre.length+min k xs.length) (vk (pre++xs.take k))∧But [mb] w wr) (fun wr=>But [mb] w wr) (Kw pre xs) xs v w ?_ ?_ ?_ ?_).mono ?_
 ·rintro k wr ⟨_,hb⟩
  exact hv.stays lu (hW.trans (hb.below _ hW.size (fun q hq=>by rw[List.mem_singleton] at hq;omega)))
 ·rintro k w1 w2 ⟨h1,h2⟩ hb
  exact⟨h1.below hb h1.lt,h2.trans (But.of_below hb)⟩
 ·rintro k hk cs wr ⟨h1,h2⟩ hR
  have hc':wr.cell? ⟨pb,1,none⟩=some (.map (some mb)):=by rw[h2.cell (p:=⟨pb,1,none⟩) hpl (by simpa using hpb)];exact hc
  obtain⟨rfl,hs⟩:=hR
  have hl:(pre++xs.take k).length=pre.length+min k xs.length:=by simp
  have:=ae1 pb mb (pre++xs.take k) xs[k] wr hs (by rw[hl];omega) hc' (by rw[hl];exact h1)
  refine this.mono ?_
  rintro e w' ⟨rfl,g1,g2⟩
  have hq:Kw pre xs k=Iy (pre++xs.take k) xs[k]:=by unfold Kw;rw[List.getElem?_eq_getElem hk]
  rw[hq]
  refine⟨rfl,fun h=>?_,fun h=>h2.trans (But.of_below (g2 h))⟩
  obtain⟨r1,r2⟩:=g1 h
  refine⟨?_,h2.trans r2⟩
  rw[hl] at r1
  have e1:pre.length+min k xs.length+1=pre.length+min (k+1) xs.length:=by omega
  rw[e1] at r1
  have e2:pre++List.take k xs++[xs[k]]=pre++List.take (k+1) xs:=by
   rw[List.take_succ_eq_append_getElem hk];simp
  rw[e2] at r1
  exact r1
 ·simpa using ⟨hM,But.refl _ _⟩
 ·rintro e w' ⟨rfl,h1,h2⟩
  refine⟨rfl,fun h=>?_,?_⟩
  ·have:=(h1 h).1
   simpa using this
  ·cases hh:(List.range xs.length).all (Kw pre xs)
   ·exact h2 hh
   ·exact(h1 hh).2
def Hy (k:ak):Bool:=decide (1<=k.outs.length∧k.ins.length+k.outs.length+k.ay.length<=1000)&&((List.range k.ins.length).all (Gz [] k.ins)&&(List.range k.outs.length).all (Gz (k.ins.map gy.name) k.outs)&&(List.range k.ay.length).all (Kw (k.ins.map gy.name++k.outs.map gy.name) k.ay))
set_option maxRecDepth 20000 in
set_option maxHeartbeats 2000000 in
theorem amq (k:ak) (pb mb cb co:Nat) (a1 a2 a3 a4 a5 a6:Value) (W0 w:World) (hC:CA W0 cb co k a1 a2 a3 a4 a5 a6) (hW:Below W0.heap.size W0 w) (hmb:W0.heap.size<=mb) (hpb:pb≠mb) (hc0:w.cell? ⟨pb,0,none⟩=some (.pointer (some ⟨cb,co,none⟩))) (hc1:w.cell? ⟨pb,1,none⟩=some (.map (some mb))) (hM:Ba w mb 0 (vk [])) :
  Calls Tryz.prog 80 #[.pointer (some ⟨pb,0,none⟩)] w fun e w'=>e=.returned (.bool (Hy k))∧(Hy k=true->Ba w' mb (varsOf k).length (vk (varsOf k)))∧But [mb] w w':=by
 have hpl:pb<w.heap.size:=World.block_lt_of_cell? w _ hc1
 have hcb:cb≠mb:=by have:=hC.lt;omega
 obtain⟨b1,n1,rfl⟩:=hC.ins.shape
 obtain⟨b2,n2,rfl⟩:=hC.outs.shape
 obtain⟨b3,n3,rfl⟩:=hC.ay.shape
 have l1:=hC.ins.Fz
 have l2:=hC.outs.Fz
 have l3:=hC.ay.Fz
 have hCw:=hC
 have cc:∀w',But [mb] w w'->w'.cell? ⟨cb,co+1,none⟩=some (.slice b1 k.ins.length n1)∧w'.cell? ⟨cb,co+2,none⟩=some (.slice b2 k.outs.length n2)∧w'.cell? ⟨cb,co+3,none⟩=some (.slice b3 k.ay.length n3)∧w'.cell? ⟨pb,0,none⟩=some (.pointer (some ⟨cb,co,none⟩))∧w'.cell? ⟨pb,1,none⟩=some (.map (some mb)):=fun w' h=>by
  have hb:Below W0.heap.size W0 w':=hW.trans (h.below _ hW.size (fun q hq=>by rw[List.mem_singleton] at hq;omega))
  refine⟨?_,?_,?_,?_,?_⟩
  ·rw[hb.cell (p:=⟨cb,co+1,none⟩) hC.lt];exact hC.c1
  ·rw[hb.cell (p:=⟨cb,co+2,none⟩) hC.lt];exact hC.c2
  ·rw[hb.cell (p:=⟨cb,co+3,none⟩) hC.lt];exact hC.c3
  ·rw[h.cell (p:=⟨pb,0,none⟩) hpl (by simpa using hpb)];exact hc0
  ·rw[h.cell (p:=⟨pb,1,none⟩) hpl (by simpa using hpb)];exact hc1
 have HCC:=hide cc
 obtain⟨d1,d2,d3,_,_⟩:=cc w (But.refl _ _)
 have Bd:Hid (k.ins.length+k.outs.length+k.ay.length<=1000->∀n,Calls Tryz.prog 105 #[.slice b1 k.ins.length n1,.func (.func 106) #[.pointer (some ⟨pb,0,none⟩)] #[]] (w.drewN n) fun e w'=>e=.returned (.bool ((List.range k.ins.length).all (Gz [] k.ins)))∧((List.range k.ins.length).all (Gz [] k.ins)=true->Ba w' mb (0+k.ins.length) (vk ([]++k.ins.map gy.name)))∧But [mb] w w'):=fun h n=>by
  have hdn:But [mb] w (w.drewN n):=⟨rfl,rfl,rfl,Nat.le_refl _,fun _ _ _=>rfl⟩
  refine(ajq pb mb [] k.ins _ W0 (w.drewN n) hC.ins ⟨hW.os,hW.tape,hW.output,hW.size,hW.block⟩ hmb hpb (by simp;omega) hc1 (hM.block rfl)).mono ?_
  rintro e w' ⟨rfl,h1,h2⟩
  exact⟨rfl,h1,hdn.trans h2⟩
 have HS2:Hid (k.ins.length+k.outs.length+k.ay.length<=1000->∀w1,But [mb] w w1->Ba w1 mb (0+k.ins.length) (vk ([]++k.ins.map gy.name))->Calls Tryz.prog 105 #[.slice b2 k.outs.length n2,.func (.func 106) #[.pointer (some ⟨pb,0,none⟩)] #[]] w1 fun e w'=>e=.returned (.bool ((List.range k.outs.length).all (Gz (k.ins.map gy.name) k.outs)))∧((List.range k.outs.length).all (Gz (k.ins.map gy.name) k.outs)=true->Ba w' mb (k.ins.length+k.outs.length) (vk (k.ins.map gy.name++k.outs.map gy.name)))∧But [mb] w w'):=fun h w1 hb hM1=>by
  refine(ajq pb mb (k.ins.map gy.name) k.outs _ W0 w1 hC.outs (hW.trans (hb.below _ hW.size (fun q hq=>by rw[List.mem_singleton] at hq;omega))) hmb hpb (by simp;omega) (cc w1 hb).2.2.2.2 (by simpa using hM1)).mono ?_
  rintro e w' ⟨rfl,h1,h2⟩
  exact⟨rfl,(fun g=>by simpa using h1 g),hb.trans h2⟩
 have Ef:Hid (k.ins.length+k.outs.length+k.ay.length<=1000->∀w1,But [mb] w w1->Ba w1 mb (k.ins.length+k.outs.length) (vk (k.ins.map gy.name++k.outs.map gy.name))->Calls Tryz.prog 107 #[.slice b3 k.ay.length n3,.func (.func 108) #[.pointer (some ⟨pb,0,none⟩)] #[]] w1 fun e w'=>e=.returned (.bool ((List.range k.ay.length).all (Kw (k.ins.map gy.name++k.outs.map gy.name) k.ay)))∧((List.range k.ay.length).all (Kw (k.ins.map gy.name++k.outs.map gy.name) k.ay)=true->Ba w' mb (varsOf k).length (vk (varsOf k)))∧But [mb] w w'):=fun h w1 hb hM1=>by
  refine(aut pb mb (k.ins.map gy.name++k.outs.map gy.name) k.ay _ W0 w1 hC.ay (hW.trans (hb.below _ hW.size (fun q hq=>by rw[List.mem_singleton] at hq;omega))) hmb hpb (by simp;omega) (cc w1 hb).2.2.2.2 (by simpa using hM1)).mono ?_
  rintro e w' ⟨rfl,h1,h2⟩
  refine⟨rfl,(fun g=>?_),hb.trans h2⟩
  have:=h1 g
  unfold varsOf
  simpa[Nat.add_assoc] using this
 have HD:Hid (Hy k=(decide (1<=k.outs.length∧k.ins.length+k.outs.length+k.ay.length<=1000)&&((List.range k.ins.length).all (Gz [] k.ins)&&(List.range k.outs.length).all (Gz (k.ins.map gy.name) k.outs)&&(List.range k.ay.length).all (Kw (k.ins.map gy.name++k.outs.map gy.name) k.ay)))):=rfl
 have Ld:Hid (∀n,But [mb] w (w.drewN n)):=fun n=>⟨rfl,rfl,rfl,Nat.le_refl _,fun _ _ _=>rfl⟩
 clear cc hM hC hCw hW
 generalize Hy k=R at *
 generalize (List.range k.ins.length).all (Gz [] k.ins)=r1 at *
 generalize (List.range k.outs.length).all (Gz (k.ins.map gy.name) k.outs)=r2 at *
 generalize (List.range k.ay.length).all (Kw (k.ins.map gy.name++k.outs.map gy.name) k.ay)=r3 at *
 by_cases h1:k.outs.length=0
 ·have e1:((k.outs.length:Int) == 0)=true:=by rw[beq_iff_eq];omega
  have HF:Hid (R=false):=(uh HD).trans (by rw[decide_eq_false (by omega),Bool.false_and])
  clear HD Bd HS2 Ef HCC h1
  go_enter Tryz.func80,Tryz.ntmps80
  go_wp2_with fail
  go_quiet ((fail))
  go_wp2
  go_ret
  rw[uh HF]
  exact⟨rfl,(fun h=>by cases h),uh Ld _⟩
 have e1:((k.outs.length:Int) == 0)=false:=by rw[beq_eq_false_iff_ne];omega
 by_cases h2:k.ins.length+k.outs.length+k.ay.length<=1000
 case neg =>
  have e2:decide (1000<(k.ins.length:Int)+(k.outs.length:Int)+(k.ay.length:Int))=true:=decide_eq_true (by omega)
  have HF:Hid (R=false):=(uh HD).trans (by rw[decide_eq_false (by omega),Bool.false_and])
  clear HD Bd HS2 Ef HCC h1 h2
  go_enter Tryz.func80,Tryz.ntmps80
  go_wp2_with fail
  go_quiet ((fail))
  go_wp2
  go_ret
  rw[uh HF]
  exact⟨rfl,(fun h=>by cases h),uh Ld _⟩
 have e2:decide (1000<(k.ins.length:Int)+(k.outs.length:Int)+(k.ay.length:Int))=false:=decide_eq_false (by omega)
 have HF:Hid (R=(r1&&r2&&r3)):=(uh HD).trans (by rw[decide_eq_true (by omega),Bool.true_and])
 have a0t:=hide (uh Bd h2)
 have a0u:=hide (uh HS2 h2)
 have a0v:=hide (uh Ef h2)
 clear HD Bd HS2 Ef h1 h2
 go_enter Tryz.func80,Tryz.ntmps80
 go_wp2_with fail
 go_quiet ((fail))
 go_wp2_with fail
 refine(uh a0t _).mono ?_
 rintro e w1 ⟨rfl,hm1,hb1⟩
 have HM1:=hide hm1
 have HB1:=hide hb1
 obtain⟨p1,p2,p3,p4,p5⟩:=uh HCC w1 hb1
 clear hm1 hb1 a0t
 cases r1
 ·go_wp2
  go_ret
  rw[uh HF]
  exact⟨rfl,(fun h=>by cases h),uh HB1⟩
 have HS2:=hide (uh a0u w1 (uh HB1) (uh HM1 rfl))
 clear HM1 a0u
 go_wp2_with fail
 refine(uh HS2).mono ?_
 rintro e w2 ⟨rfl,hm2,hb2⟩
 have HM2:=hide hm2
 have HB2:=hide hb2
 obtain⟨q1,q2,q3,q4,q5⟩:=uh HCC w2 hb2
 clear hm2 hb2 HS2
 cases r2
 ·go_wp2
  go_ret
  rw[uh HF]
  exact⟨rfl,(fun h=>by cases h),uh HB2⟩
 have Ef:=hide (uh a0v w2 (uh HB2) (uh HM2 rfl))
 clear HM2 a0v
 go_wp2_with fail
 refine(uh Ef).mono ?_
 rintro e w3 ⟨rfl,hm3,hb3⟩
 have HM3:=hide hm3
 have HB3:=hide hb3
 clear hm3 hb3 Ef
 go_wp2
 go_ret
 rw[uh HF]
 exact⟨rfl,(fun h=>uh HM3 (by simpa using h)),uh HB3⟩
structure PR (w:World) (pb mb cb co:Nat) (k:ak):Prop where
 p0:w.cell? ⟨pb,0,none⟩=some (.pointer (some ⟨cb,co,none⟩))
 p1:w.cell? ⟨pb,1,none⟩=some (.map (some mb))
 c4:∃b c,w.cell? ⟨cb,co+4,none⟩=some (.slice b k.aj.length c)
 ml:k.aj.length<=140737488355328
 map:Ba w mb (varsOf k).length (vk (varsOf k))
theorem PR.stays {w w':World} {pb mb cb co:Nat} {k:ak} (h:PR w pb mb cb co k) (hb:Below w.heap.size w w'):PR w' pb mb cb co k:=by
 obtain⟨b,c,hc⟩:=h.c4
 exact⟨(hb.cell (p:=⟨pb,0,none⟩) (World.block_lt_of_cell? w _ h.p0)).trans h.p0,(hb.cell (p:=⟨pb,1,none⟩) (World.block_lt_of_cell? w _ h.p1)).trans h.p1,⟨b,c,(hb.cell (p:=⟨cb,co+4,none⟩) (World.block_lt_of_cell? w _ hc)).trans hc⟩,h.ml,h.map.below hb h.map.lt⟩
def Sz (k:ak) (t:iw):Bool :=
 if t.op=25 then decide (t.name.size=0)&&decide (0<=t.val)&&decide (t.val<(k.aj.length:Int))
 else if 20<t.op then false else if itB t=false then false
 else if t.op=3 then decide (0<=iy (varsOf k) t.name) else true
set_option maxHeartbeats 2000000 in
theorem ak2 (k:ak) (t:iw) (pb mb cb co:Nat) (w:World) (h:PR w pb mb cb co k) (hs:Len t.name.size) :
  Calls Tryz.prog 148 #[.pointer (some ⟨pb,0,none⟩),.agg #[.int .i64 t.op,.int .i64 t.val,.string t.name]] w (Ans (.bool (Sz k t)) w):=by
 have hs':t.name.size<=maxLen:=by unfold Len at hs;unfold maxLen;omega
 have hA:Below w.heap.size w (w.alloc (.cells #[.int .i64 t.op,.int .i64 t.val,.string t.name] 141)):=(Below.refl _ _).alloc (Nat.le_refl _) _
 have h':=h.stays hA
 have p0:=h.p0
 have p1:=h.p1
 have hp:=World.block_lt_of_cell? w _ h.p0
 obtain⟨mbb,mcc,c4⟩:=h.c4
 have hcl:=World.block_lt_of_cell? w _ c4
 have ml:=h.ml
 have Xf:=hide h'.map
 have HI:=hide (fun w=>apr t w hs)
 have HE:Hid (Sz k t=if t.op=25 then decide (t.name.size=0)&&decide (0<=t.val)&&decide (t.val<(k.aj.length:Int)) else if 20<t.op then false else if itB t=false then false else if t.op=3 then decide (0<=iy (varsOf k) t.name) else true):=rfl
 have HA:=hide hA
 generalize Sz k t=R at *
 generalize itB t=ib at *
 obtain⟨op,val,nm⟩:=t
 simp only at *
 clear h h' hA
 by_cases Jd:op=25
 ·subst Jd
  have HR:Hid (R=(decide (nm.size=0)&&decide (0<=val)&&decide (val<(k.aj.length:Int)))):=(uh HE).trans (if_pos rfl)
  clear HE HI Xf
  by_cases hN:nm.size=0
  ·have g1:=Ea nm hN
   have g1b:=Bg nm hN
   have HR2:Hid (R=(decide (0<=val)&&decide (val<(k.aj.length:Int)))):=(uh HR).trans (by rw[decide_eq_true hN,Bool.true_and])
   clear HR hN
   by_cases h0:0<=val
   ·have g2:decide (0<=val)=true:=decide_eq_true h0
    have HR3:Hid (R=decide (val<(k.aj.length:Int))):=(uh HR2).trans (by rw[g2,Bool.true_and])
    clear HR2
    by_cases hm:val<(k.aj.length:Int)
    ·have g3:decide (val<(k.aj.length:Int))=true:=decide_eq_true hm
     have HF:Hid (R=true):=(uh HR3).trans g3
     clear HR3
     go_enter Tryz.func148,Tryz.ntmps148
     go_wp2_with fail
     go_quiet ((fail))
     go_wp2
     go_ret
     exact⟨Ep (uh HF).symm,below_drewN (uh HA) _⟩
    ·have g3:decide (val<(k.aj.length:Int))=false:=decide_eq_false hm
     have HF:Hid (R=false):=(uh HR3).trans g3
     clear HR3
     go_enter Tryz.func148,Tryz.ntmps148
     go_wp2_with fail
     go_quiet ((fail))
     go_wp2
     go_ret
     exact⟨Ep (uh HF).symm,below_drewN (uh HA) _⟩
   ·have g2:decide (0<=val)=false:=decide_eq_false h0
    have HF:Hid (R=false):=(uh HR2).trans (by rw[g2,Bool.false_and])
    clear HR2
    go_enter Tryz.func148,Tryz.ntmps148
    go_wp2_with fail
    go_quiet ((fail))
    go_wp2
    go_ret
    exact⟨Ep (uh HF).symm,below_drewN (uh HA) _⟩
  ·have g1:=Gg nm hN
   have g1b:=Cj nm hN
   have HF:Hid (R=false):=(uh HR).trans (by rw[decide_eq_false hN];rfl)
   clear HR hN
   go_enter Tryz.func148,Tryz.ntmps148
   go_wp2_with fail
   go_quiet ((fail))
   go_wp2
   go_ret
   exact⟨Ep (uh HF).symm,below_drewN (uh HA) _⟩
 have b25:(op == 25)=false:=by rw[beq_eq_false_iff_ne];exact Jd
 have HR:Hid (R=if 20<op then false else if ib=false then false else if op=3 then decide (0<=iy (varsOf k) nm) else true):=(uh HE).trans (if_neg Jd)
 clear HE Jd
 by_cases h20:20<op
 ·have g2:decide (20<op)=true:=decide_eq_true h20
  have HF:Hid (R=false):=(uh HR).trans (if_pos h20)
  clear HR Xf HI
  go_enter Tryz.func148,Tryz.ntmps148
  go_wp2
  go_ret
  exact⟨Ep (uh HF).symm,uh HA⟩
 have g2:decide (20<op)=false:=decide_eq_false h20
 have HR2:Hid (R=if ib=false then false else if op=3 then decide (0<=iy (varsOf k) nm) else true):=(uh HR).trans (if_neg h20)
 clear HR h20
 cases ib
 ·have HF:Hid (R=false):=(uh HR2).trans (if_pos rfl)
  clear HR2 Xf
  go_enter Tryz.func148,Tryz.ntmps148
  go_wp2_with fail
  refine(uh HI _).mono ?_
  rintro e w1 ⟨rfl,hb1⟩
  have HB:=hide ((uh HA).trans (hb1.mono (uh HA).size))
  clear hb1
  go_wp2
  go_ret
  exact⟨Ep (uh HF).symm,uh HB⟩
 have HR3:Hid (R=if op=3 then decide (0<=iy (varsOf k) nm) else true):=(uh HR2).trans (if_neg (by decide))
 have Fa:=hide (jl w #[.int .i64 op,.int .i64 val,.string nm] 141)
 clear HR2
 by_cases h3:op=3
 ·subst h3
  have HR4:Hid (R=decide (0<=iy (varsOf k) nm)):=(uh HR3).trans (if_pos rfl)
  clear HR3
  by_cases hpl:0<=iy (varsOf k) nm
  ·have HF:Hid (R=true):=(uh HR4).trans (decide_eq_true hpl)
   have HNF:=hide (aaf _ _ hpl)
   clear HR4
   generalize iy (varsOf k) nm=pl at *
   go_enter Tryz.func148,Tryz.ntmps148
   go_wp2_with fail
   refine(uh HI _).mono ?_
   rintro e w1 ⟨rfl,hb1⟩
   have HB:=hide ((uh HA).trans (hb1.mono (uh HA).size))
   have q1:w1.cell? ⟨pb,1,none⟩=some (.map (some mb)):=by rw[(uh HB).cell (p:=⟨pb,1,none⟩) hp];exact p1
   have k1:au w1 w.heap.size 141 #[.int .i64 3,.int .i64 val,.string nm]:=(uh Fa).below hb1 (uh Fa).lt
   have x0:=k1.cell (i:=0) (v:=.int .i64 3) rfl
   have x2:=k1.cell (i:=2) (v:=.string nm) rfl
   have hlk:∀n,(Instr.lookup 93 (.map (some mb)) (.string nm) true).run Tryz.prog (w1.drewN n)=.ok (.tuple #[.int .i64 pl,.bool true]) (w1.drewN n):=fun n =>
    Bv.hit (w:=w1.drewN n) (((uh Xf).below hb1 (uh Xf).lt).block rfl) Tryz.underlying9 Tryz.underlying93 (Qb _) hs' (uh HNF)
   clear hb1 k1 Xf HNF
   go_wp2_with fail
   go_quiet ((fail))
   go_wp2
   go_ret
   exact⟨Ep (uh HF).symm,below_drewN (uh HB) _⟩
  ·have HF:Hid (R=false):=(uh HR4).trans (decide_eq_false hpl)
   have HNF:=hide (Yf (varsOf k) nm (by omega))
   clear HR4 hpl
   go_enter Tryz.func148,Tryz.ntmps148
   go_wp2_with fail
   refine(uh HI _).mono ?_
   rintro e w1 ⟨rfl,hb1⟩
   have HB:=hide ((uh HA).trans (hb1.mono (uh HA).size))
   have q1:w1.cell? ⟨pb,1,none⟩=some (.map (some mb)):=by rw[(uh HB).cell (p:=⟨pb,1,none⟩) hp];exact p1
   have k1:au w1 w.heap.size 141 #[.int .i64 3,.int .i64 val,.string nm]:=(uh Fa).below hb1 (uh Fa).lt
   have x0:=k1.cell (i:=0) (v:=.int .i64 3) rfl
   have x2:=k1.cell (i:=2) (v:=.string nm) rfl
   have hlk:∀n,(Instr.lookup 93 (.map (some mb)) (.string nm) true).run Tryz.prog (w1.drewN n)=.ok (.tuple #[.int .i64 0,.bool false]) (w1.drewN n):=fun n =>
    Bv.miss (w:=w1.drewN n) (((uh Xf).below hb1 (uh Xf).lt).block rfl) Tryz.underlying9 Tryz.underlying93 (Qb _) hs' (uh HNF)
   clear hb1 k1 Xf HNF
   go_wp2_with fail
   go_quiet ((fail))
   go_wp2
   go_ret
   exact⟨Ep (uh HF).symm,below_drewN (uh HB) _⟩
 ·have b3:(op == 3)=false:=by rw[beq_eq_false_iff_ne];exact h3
  have HF:Hid (R=true):=(uh HR3).trans (if_neg h3)
  clear HR3 h3
  go_enter Tryz.func148,Tryz.ntmps148
  go_wp2_with fail
  refine(uh HI _).mono ?_
  rintro e w1 ⟨rfl,hb1⟩
  have HB:=hide ((uh HA).trans (hb1.mono (uh HA).size))
  have k1:au w1 w.heap.size 141 #[.int .i64 op,.int .i64 val,.string nm]:=(uh Fa).below hb1 (uh Fa).lt
  have x0:=k1.cell (i:=0) (v:=.int .i64 op) rfl
  clear hb1 k1 Xf
  go_wp2
  go_ret
  exact⟨Ep (uh HF).symm,uh HB⟩
end Go.Proofs.YtlcgnbcgmljpaaaGreat
