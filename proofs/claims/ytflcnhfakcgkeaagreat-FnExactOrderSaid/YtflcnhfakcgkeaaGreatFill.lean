import Derived.Test.YtflcnhfakcgkeaaGreatData
import Derived.Test.YtflcnhfakcgkeaaGreatProg
import Derived.WalkLawsBesides
import Derived.Deep.LoopGhost
namespace Go.Proofs.YtflcnhfakcgkeaaGreat
open Go.RowKit
def putCells (w:World) (b:Nat):Nat->List Value->World
 | _,[]=>w
 | i,c::cs=>(putCells w b (i+1) cs).setCell ⟨b,i,none⟩ c
def Jr (w:World) (b:Nat):Nat->List Value->World
 | _,[]=>w
 | i,c::cs=>Jr (w.setCell ⟨b,i,none⟩ c) b (i+1) cs
theorem aqj {w:World} {b n:Nat} (h:zi w b n) (i:Nat) (cs:List Value):zi (Jr w b i cs) b n:=by
 induction cs generalizing w i with
 | nil=>exact h
 | cons c cs ih=>exact ih (h.set i c) (i+1)
theorem Dv (w:World) (b i:Nat) (u:Value) (p:Addr) (h:p.block≠b∨p.off≠i):(w.setCell ⟨b,i,none⟩ u).cell? p=w.cell? p:=by
 simp only[World.cell?,World.setCell,Array.getElem?_modify]
 by_cases hb:p.block=b
 ·have hi:p.off≠i:=by rcases h with h|h;exact absurd hb h;exact h
  subst hb
  simp only[if_true]
  cases hh:w.heap[p.block]? with
  | none=>simp
  | some o =>
   cases o with
   | cells c t f =>
    simp[Ne.symm hi]
   | _=>simp
 ·rw[if_neg (fun h=>hb h.symm)]
theorem agt (w:World) (b i:Nat) (cs:List Value) (p:Addr) (h:p.block≠b∨p.off<i∨i+cs.length<=p.off):(Jr w b i cs).cell? p=w.cell? p:=by
 induction cs generalizing w i with
 | nil=>rfl
 | cons c cs ih =>
  simp only[Jr]
  rw[ih _ _ (by simp only[List.length_cons] at h;omega)]
  exact Dv _ _ _ _ _ (by simp only[List.length_cons] at h;omega)
theorem Zx {w:World} {b n:Nat} (h:zi w b n) {i:Nat} (hi:i<n) (u:Value):(w.setCell ⟨b,i,none⟩ u).cell? ⟨b,i,none⟩=some u:=by
 obtain⟨c,t,hb,hn⟩:=h
 simp[World.cell?,World.setCell,Array.getElem?_modify,hb,hn,hi]
theorem atx {w:World} {b n:Nat} (h:zi w b n) (i:Nat) (cs:List Value) (hl:i+cs.length<=n) (j:Nat) (hj:j<cs.length):(Jr w b i cs).cell? ⟨b,i+j,none⟩=some cs[j]:=by
 induction cs generalizing w i j with
 | nil=>exact absurd hj (Nat.not_lt_zero _)
 | cons c cs ih =>
  simp only[List.length_cons] at hl hj
  simp only[Jr]
  cases j with
  | zero =>
   rw[agt _ _ _ _ _ (Or.inr (Or.inl (by simp)))]
   exact Zx h (by omega) c
  | succ j =>
   have:=ih (h.set i c) (i+1) (by omega) j (by omega)
   rw[show i+(j+1)=i+1+j from by omega]
   simpa using this
theorem aeh {lo hi:Nat} {w w':World} (h:Kept lo hi w w') {b:Nat} (hb:b<lo) (i:Nat) (cs:List Value):Kept lo hi w (Jr w' b i cs):=by
 induction cs generalizing w' i with
 | nil=>exact h
 | cons c cs ih=>exact ih (h.setCell (p:=⟨b,i,none⟩) hb c) (i+1)
theorem alf {B:Nat} {w w':World} (h:Below B w w') {b:Nat} (hb:B<=b) (i:Nat) (cs:List Value):Below B w (Jr w' b i cs):=by
 induction cs generalizing w' i with
 | nil=>exact h
 | cons c cs ih=>exact ih (h.setCell (p:=⟨b,i,none⟩) hb c) (i+1)
theorem aqk {α:Type} {sz:Nat} {R:Nat->World->List Value->α->Prop} (hK:Gm R) (hL:Lowers R) {w wr w1:World} {b:Nat} {xs:List α} {k:Nat} (hlt:k<xs.length) {B:Nat} (hB:B<=b) (hbl:Below B w wr)
  (hrow:zi wr b (xs.length*sz)) (hfil:Jb sz R (b+1) wr b xs k) (hb1:Below wr.heap.size wr w1) {cs:List Value} (hcs:cs.length=sz) (hR:R wr.heap.size w1 cs xs[k]) :
  Below B w (Jr w1 b (k*sz) cs)∧zi (Jr w1 b (k*sz) cs) b (xs.length*sz)∧Jb sz R (b+1) (Jr w1 b (k*sz) cs) b xs (k+1):=by
 have hrow1:=hrow.below hb1
 have hblt:=hrow.lt
 have hB':B<=wr.heap.size:=by omega
 refine⟨alf (hbl.trans (hb1.mono hB')) hB _ _,aqj hrow1 _ _,fun i hi hik=>?_⟩
 by_cases e:i=k
 ·subst e
  have hfit:i*sz+cs.length<=xs.length*sz:=by
   rw[hcs]
   have:(i+1)*sz<=xs.length*sz:=Nat.mul_le_mul_right _ hlt
   rw[Nat.add_mul] at this
   omega
  exact⟨cs,hcs,fun j hj=>atx hrow1 _ _ hfit j hj,hK _ _ _ _ _ (aeh (Kept.refl _ _ _) (Nat.lt_succ_self _) _ _) (hL _ _ _ _ _ (by omega) hR)⟩
 ·obtain⟨cs',hcs',hc',hR'⟩:=hfil i hi (by omega)
  refine⟨cs',hcs',fun j hj=>?_,hK _ _ _ _ _ (aeh (Kept.of_below hb1) (Nat.lt_succ_self _) _ _) hR'⟩
  have hlo:i*sz+j<k*sz:=by
   have:(i+1)*sz<=k*sz:=Nat.mul_le_mul_right _ (by omega)
   rw[Nat.add_mul] at this
   omega
  rw[agt _ _ _ _ _ (Or.inr (Or.inl hlo)),hb1.cell (p:=⟨b,_,none⟩) hblt]
  exact hc' j hj
structure ql (B:Nat) (w w':World):Prop where
 below:Below B w w'
 free:∀k,B<=k->k<w'.heap.size->∃c t,w'.heap[k]?=some (.cells c t (0,0))
theorem ql.refl (w:World):ql w.heap.size w w:=⟨Below.refl _ _,fun k h1 h2=>absurd h2 (by omega)⟩
theorem ql.alloc {B:Nat} {a w:World} (h:ql B a w) (hB:B<=w.heap.size) (c:Array Value) {t:TypeId}:ql B a (w.alloc (.cells c t)):=by
 refine⟨h.below.alloc hB _,fun k h1 h2=>?_⟩
 by_cases e:k<w.heap.size
 ·obtain⟨c1,t1,h3⟩:=h.free k h1 e
  exact⟨c1,t1,(Below.heap_alloc _ _ _ e).trans h3⟩
 ·have e2:k=w.heap.size:=by simp at h2;omega
  subst e2
  exact⟨c,t,by show (w.heap.push _)[w.heap.size]?=_;rw[Array.getElem?_push_size]⟩
theorem ql.setCell {B:Nat} {a w:World} (h:ql B a w) {p:Addr} (hp:B<=p.block) (u:Value):ql B a (w.setCell p u):=by
 refine⟨h.below.setCell hp _,fun k h1 h2=>?_⟩
 have h2':k<w.heap.size:=by simpa[World.setCell] using h2
 obtain⟨c1,t1,h3⟩:=h.free k h1 h2'
 by_cases e:k=p.block
 ·subst e
  refine⟨if p.spot.isSome then c1 else c1.setIfInBounds p.off u,t1,?_⟩
  simp only[World.setCell,Array.getElem?_modify,if_true,h3,Option.map_some]
 ·exact⟨c1,t1,(Below.heap_setCell _ _ _ _ e).trans h3⟩
theorem ql.and {B:Nat} {a b c:World} (h:ql B a b) (k:ql b.heap.size b c) (hB:B<=b.heap.size):ql B a c:=by
 refine⟨h.below.trans (k.below.mono hB),fun i h1 h2=>?_⟩
 by_cases e:i<b.heap.size
 ·obtain⟨c1,t1,h3⟩:=h.free i h1 e
  exact⟨c1,t1,(k.below.block i e).trans h3⟩
 ·exact k.free i (by omega) h2
theorem aoh {B:Nat} {w w':World} (h:ql B w w') {b:Nat} (hb:B<=b) (i:Nat) (cs:List Value):ql B w (Jr w' b i cs):=by
 induction cs generalizing w' i with
 | nil=>exact h
 | cons c cs ih=>exact ih (h.setCell (p:=⟨b,i,none⟩) hb c) (i+1)
theorem Js {α:Type} {sz:Nat} {R:Nat->World->List Value->α->Prop} (hK:Gm R) (hL:Lowers R) {w wr w1:World} {b:Nat} {xs:List α} {k:Nat} (hlt:k<xs.length) {B:Nat} (hB:B<=b) (hbl:ql B w wr)
  (hrow:zi wr b (xs.length*sz)) (hfil:Jb sz R (b+1) wr b xs k) (hb1:ql wr.heap.size wr w1) {cs:List Value} (hcs:cs.length=sz) (hR:R wr.heap.size w1 cs xs[k]) :
  ql B w (Jr w1 b (k*sz) cs)∧zi (Jr w1 b (k*sz) cs) b (xs.length*sz)∧Jb sz R (b+1) (Jr w1 b (k*sz) cs) b xs (k+1):=by
 have hblt:=hrow.lt
 have h:=aqk hK hL hlt hB hbl.below hrow hfil hb1.below hcs hR
 exact⟨aoh (hbl.and hb1 (by omega)) hB _ _,h.2⟩
theorem Nv {α:Type} (sz:Nat) (R:Nat->World->List Value->α->Prop) (lo:Nat) (w:World) (b:Nat) (xs:List α):Jb sz R lo w b xs 0:=fun _ _ h=>absurd h (Nat.not_lt_zero _)
theorem Nw {α:Type} {sz oz:Nat} {R:Nat->World->List Value->α->Prop} (hL:Lowers R) {wr:World} {b:Nat} {xs:List α} (hb:b<wr.heap.size) (h1:Len (xs.length*oz)) (h2:Len xs.length) (hfil:Jb sz R (b+1) wr b xs xs.length) :
  bf sz oz R b wr (.slice (some ⟨b,0,none⟩) xs.length xs.length) xs:=by
 refine⟨_,_,rfl,⟨h1,Nat.le_refl _⟩,h2,fun i hi=>?_⟩
 obtain⟨cs,hcs,hc,hR⟩:=hfil i hi hi
 exact⟨b,0,cs,rfl,Nat.le_refl _,hb,hcs,fun j hj=>by rw[Nat.zero_add];exact hc j hj,hL _ _ _ _ _ (Nat.le_succ _) hR⟩
end Go.Proofs.YtflcnhfakcgkeaaGreat
namespace Go.Proofs.YtflcnhfakcgkeaaGreat
open Go.RowKit
set_option linter.unusedSimpArgs false
set_option linter.unusedVariables false
def Uz {α:Type} (R:Nat->World->List Value->α->Prop) (w:World) (x:α) (e:Ending) (w':World):Prop :=
 ∃cs:List Value,e=.returned (.agg cs.toArray)∧R w.heap.size w' cs x∧ql w.heap.size w w'
def Tt {α:Type} (sz oz:Nat) (R:Nat->World->List Value->α->Prop) (w:World) (xs:List α) (e:Ending) (w':World):Prop :=
 ∃v:Value,e=.returned v∧bf sz oz R w.heap.size w' v xs∧ql w.heap.size w w'
def amf {α:Type} (R:Nat->World->List Value->α->Prop) (w:World) (x:α) (e:Ending) (w':World):Prop :=
 ∃cs:List Value,e=.returned (.agg cs.toArray)∧R w.heap.size w' cs x∧Below w.heap.size w w'
theorem Uz.weak {α:Type} {R:Nat->World->List Value->α->Prop} {w:World} {x:α} {e:Ending} {w':World} (h:Uz R w x e w'):amf R w x e w':=by
 obtain⟨cs,h1,h2,h3⟩:=h
 exact⟨cs,h1,h2,h3.below⟩
set_option maxHeartbeats 400000 in
theorem aql (c:cu) (w:World) (hs:Len c.name.size) :
  Calls Tryz.prog 124 #[.agg #[.string c.name,.bool c.on]] w (Uz jm w c):=by
 obtain⟨s,on⟩:=c
 simp only at hs
 have HS:=hide hs
 clear hs
 go_enter Tryz.func124,Tryz.ntmps124
 go_wp2
 exact bodyPost_ret (v:=.agg #[.string s,.bool on]) (by simp[results,Tryz.results124,go_sem]) rfl ⟨[.string s,.bool on],rfl,⟨rfl,uh HS⟩,(((ql.refl _).alloc (Nat.le_refl _) _).alloc (by simp) _).alloc (by simp;omega) _⟩
set_option maxHeartbeats 400000 in
theorem aqm (t:eu) (w:World) (hs:Len t.name.size) (ho:I64 t.op) (hv:I64 t.val) :
  Calls Tryz.prog 125 #[.agg #[.int .i64 t.op,.int .i64 t.val,.string t.name]] w (Uz jw w t):=by
 obtain⟨op,val,s⟩:=t
 simp only at hs ho hv
 have HS:=hide hs
 have HO:=hide ho
 have HV:=hide hv
 clear hs ho hv
 go_enter Tryz.func125,Tryz.ntmps125
 go_wp2
 exact bodyPost_ret (v:=.agg #[.int .i64 op,.int .i64 val,.string s]) (by simp[results,Tryz.results125,go_sem]) rfl ⟨[.int .i64 op,.int .i64 val,.string s],rfl,⟨rfl,uh HS,uh HO,uh HV⟩,(((ql.refl _).alloc (Nat.le_refl _) _).alloc (by simp) _).alloc (by simp;omega) _⟩
theorem ajv:(Tryz.prog.info? 94).map (fun i=>(i.zero,i.size,i.bytes))=some (some (.agg #[.string ByteArray.empty,.bool false]),2,24):=by kernel_rfl
set_option maxHeartbeats 400000 in
theorem aoi (xs:List cu) (v:Value) (w:World) (hv:bf 2 24 jm 0 w v xs) :
  Calls Tryz.prog 98 #[v] w (Tt 2 24 jm w xs):=by
 obtain⟨a,cap,rfl,⟨hnb,_⟩,hn,hx⟩:=hv
 have Gl:=hide hnb
 have HN:=hide hn
 unfold Len at hn hnb
 have HX:=hide hx
 clear hx
 have hmk:=Am (P:=Tryz.prog) 66 94 _ _ _ Tryz.underlying66 ajv xs.length hnb hn
 clear hnb
 go_enter Tryz.func98,Tryz.ntmps98
 go_wp2
 go_loopg [4] xs.length (fun g i wr=>∃(k:Nat),k<=xs.length∧g=xs.length-k∧i=.int .i64 k∧ql w.heap.size w wr∧zi wr w.heap.size (xs.length*2)∧Jb 2 jm (w.heap.size+1) wr w.heap.size xs k)
 case atStart=>exact⟨0,Nat.zero_le _,by omega,rfl,(ql.refl _).alloc (Nat.le_refl _) _,zi.made _ _ _ _,Nv _ _ _ _ _ _⟩
 case round =>
  obtain⟨k,hk,hg,rfl,hbl,hrow,hfil⟩:=hrel
  clear hmk
  have HG:=hide hg
  have HF:=hide hfil
  clear hg hfil
  by_cases hlt:k<xs.length
  ·obtain⟨b,o,cs,rfl,_,hb,hcs,hc,hR⟩:=uh HX k hlt
   have hR:=lg.stays _ _ _ _ _ hbl.below hR
   have hc:∀j (hj:j<cs.length),wr.cell? ⟨b,o+k*2+j,none⟩=some cs[j]:=fun j hj=>by rw[hbl.below.cell (p:=⟨b,_,none⟩) hb];exact hc j hj
   obtain⟨rfl,hsn⟩:=hR
   have c0:=hc 0 (by simp)
   have c1:=hc 1 (by simp)
   simp only[Nat.mul_one,Nat.add_zero,List.getElem_cons_zero,List.getElem_cons_succ] at c0 c1
   clear hc hcs
   go_wp2_with fail
   refine(aql _ _ hsn).mono ?_
   rintro e w1 ⟨cs',rfl,hR1,hb1⟩
   have hrow1:=hrow.below hb1.below
   have Ny:=hR1
   obtain⟨rfl,aoj⟩:=hR1
   obtain⟨x0,d0⟩:=hrow1.cell (i:=k*2) (by omega)
   have f0:=hrow1.frozen (k*2)
   obtain⟨x1,d1⟩:=hrow1.cell (i:=k*2+1) (by omega)
   have f1:=hrow1.frozen (k*2+1)
   have step:=Js lg Ns hlt (Nat.le_refl _) hbl hrow (uh HF) hb1 rfl Ny
   have ST:=hide step
   clear c0 c1 step Ny hrow1
   go_wp2
   go_roundg (xs.length-(k+1))
   case measure=>have:=uh HG;omega
   case rel=>exact⟨k+1,by omega,rfl,by go_num,uh ST⟩
  ·have e:k=xs.length:=by omega
   have hb0:=hrow.lt
   have D:=hide (Nw Ns hb0 (uh Gl) (uh HN) (by have:=uh HF;rwa[e] at this))
   clear hrow
   go_wp2
   go_ret
   exact⟨_,rfl,uh D,hbl⟩
theorem ajw:(Tryz.prog.info? 97).map (fun i=>(i.zero,i.size,i.bytes))=some (some (.agg #[.int .i64 0,.int .i64 0,.string ByteArray.empty]),3,32):=by kernel_rfl
set_option maxHeartbeats 400000 in
theorem aei (xs:List eu) (v:Value) (w:World) (hv:bf 3 32 jw 0 w v xs) :
  Calls Tryz.prog 100 #[v] w (Tt 3 32 jw w xs):=by
 obtain⟨a,cap,rfl,⟨hnb,_⟩,hn,hx⟩:=hv
 have Gl:=hide hnb
 have HN:=hide hn
 unfold Len at hn hnb
 have HX:=hide hx
 clear hx
 have hmk:=Am (P:=Tryz.prog) 45 97 _ _ _ Tryz.underlying45 ajw xs.length hnb hn
 clear hnb
 go_enter Tryz.func100,Tryz.ntmps100
 go_wp2
 go_loopg [4] xs.length (fun g i wr=>∃(k:Nat),k<=xs.length∧g=xs.length-k∧i=.int .i64 k∧ql w.heap.size w wr∧zi wr w.heap.size (xs.length*3)∧Jb 3 jw (w.heap.size+1) wr w.heap.size xs k)
 case atStart=>exact⟨0,Nat.zero_le _,by omega,rfl,(ql.refl _).alloc (Nat.le_refl _) _,zi.made _ _ _ _,Nv _ _ _ _ _ _⟩
 case round =>
  obtain⟨k,hk,hg,rfl,hbl,hrow,hfil⟩:=hrel
  clear hmk
  have HG:=hide hg
  have HF:=hide hfil
  clear hg hfil
  by_cases hlt:k<xs.length
  ·obtain⟨b,o,cs,rfl,_,hb,hcs,hc,hR⟩:=uh HX k hlt
   have hR:=je.stays _ _ _ _ _ hbl.below hR
   have hc:∀j (hj:j<cs.length),wr.cell? ⟨b,o+k*3+j,none⟩=some cs[j]:=fun j hj=>by rw[hbl.below.cell (p:=⟨b,_,none⟩) hb];exact hc j hj
   obtain⟨rfl,hsn,ho,hv⟩:=hR
   have c0:=hc 0 (by simp)
   have c1:=hc 1 (by simp)
   have c2:=hc 2 (by simp)
   simp only[Nat.mul_one,Nat.add_zero,List.getElem_cons_zero,List.getElem_cons_succ] at c0 c1 c2
   clear hc hcs
   go_wp2_with fail
   refine(aqm _ _ hsn ho hv).mono ?_
   rintro e w1 ⟨cs',rfl,hR1,hb1⟩
   have hrow1:=hrow.below hb1.below
   have Ny:=hR1
   obtain⟨rfl,aoj,ho1,hv1⟩:=hR1
   obtain⟨x0,d0⟩:=hrow1.cell (i:=k*3) (by omega)
   have f0:=hrow1.frozen (k*3)
   obtain⟨x1,d1⟩:=hrow1.cell (i:=k*3+1) (by omega)
   have f1:=hrow1.frozen (k*3+1)
   obtain⟨x2,d2⟩:=hrow1.cell (i:=k*3+2) (by omega)
   have f2:=hrow1.frozen (k*3+2)
   have step:=Js je Ja hlt (Nat.le_refl _) hbl hrow (uh HF) hb1 rfl Ny
   have ST:=hide step
   clear c0 c1 c2 step Ny hrow1
   go_wp2
   go_roundg (xs.length-(k+1))
   case measure=>have:=uh HG;omega
   case rel=>exact⟨k+1,by omega,rfl,by go_num,uh ST⟩
  ·have e:k=xs.length:=by omega
   have hb0:=hrow.lt
   have D:=hide (Nw Ja hb0 (uh Gl) (uh HN) (by have:=uh HF;rwa[e] at this))
   clear hrow
   go_wp2
   go_ret
   exact⟨_,rfl,uh D,hbl⟩
set_option maxHeartbeats 1000000 in
theorem aty (x:gy) (a1:Value) (w:World) (hs:Len x.name.size) (ht:I64 x.type) (h1:bf 2 24 jm 0 w a1 x.clock) :
  Calls Tryz.prog 73 #[.agg #[.string x.name,.int .i64 x.type,a1]] w (Uz RVar w x):=by
 obtain⟨s,ty,clk⟩:=x
 simp only at hs ht h1
 have Hhs:=hide hs
 clear hs
 have Hht:=hide ht
 clear ht
 have H1:=hide h1
 clear h1
 go_enter Tryz.func73,Tryz.ntmps73
 go_wp2_with fail
 refine(aoi clk _ _ ?_).mono ?_
 ·exact(uh H1).stays lg ((((Below.refl _ _).alloc (Nat.le_refl _) _).alloc (by simp) _).alloc (by simp<;>omega) _)
 rintro e w1 ⟨v1,rfl,hS,hb⟩
 obtain⟨b1,cap1,rfl⟩:=hS.shape
 obtain⟨hc1,hf1⟩:=pq hb.below
 have hz:=hb.below.size
 simp only[World.size_alloc,Deep.nblk_setCell] at hz hc1 hf1
 have Fb:=hide (hS.lower Ns (lo':=w.heap.size+1+1+1) (by simp<;>omega))
 have HB1:Hid (ql w.heap.size w w1):=((((ql.refl _).alloc (Nat.le_refl _) _).alloc (by simp) _).alloc (by simp<;>omega) _).and hb (by simp<;>omega)
 have Au:w.heap.size<w1.heap.size:=by omega
 have Xp:w.heap.size+1<w1.heap.size:=by omega
 have adk:w.heap.size+1+1<w1.heap.size:=by omega
 clear hS hb hz
 go_wp2
 refine bodyPost_ret (v:=.agg #[.string s,.int .i64 ty,.slice b1 clk.length cap1]) (by simp[results,Tryz.results73,go_sem,hc1,Au,Xp,adk]) rfl ⟨[.string s,.int .i64 ty,.slice b1 clk.length cap1],rfl,⟨_,rfl,uh Hhs,uh Hht,?_⟩,?_⟩
 ·exact((uh Fb).kept lg (by repeat (first|refine Kept.setCell ?_ (by simp<;>omega) _|exact Kept.refl _ _ _))).lower Ns (by omega)
 ·repeat (first|refine ql.setCell ?_ (by simp<;>omega) _|exact uh HB1)
theorem alg:(Tryz.prog.info? 68).map (fun i=>(i.zero,i.size,i.bytes))=some (some (.agg #[.string ByteArray.empty,.int .i64 0,.slice none 0 0]),3,48):=by kernel_rfl
set_option maxHeartbeats 400000 in
theorem aa6 (xs:List gy) (v:Value) (w:World) (hv:bf 3 48 RVar 0 w v xs) :
  Calls Tryz.prog 44 #[v] w (Tt 3 48 RVar w xs):=by
 obtain⟨a,cap,rfl,⟨hnb,_⟩,hn,hx⟩:=hv
 have Gl:=hide hnb
 have HN:=hide hn
 unfold Len at hn hnb
 have HX:=hide hx
 clear hx
 have hmk:=Am (P:=Tryz.prog) 39 68 _ _ _ Tryz.underlying39 alg xs.length hnb hn
 clear hnb
 go_enter Tryz.func44,Tryz.ntmps44
 go_wp2
 go_loopg [4] xs.length (fun g i wr=>∃(k:Nat),k<=xs.length∧g=xs.length-k∧i=.int .i64 k∧ql w.heap.size w wr∧zi wr w.heap.size (xs.length*3)∧Jb 3 RVar (w.heap.size+1) wr w.heap.size xs k)
 case atStart=>exact⟨0,Nat.zero_le _,by omega,rfl,(ql.refl _).alloc (Nat.le_refl _) _,zi.made _ _ _ _,Nv _ _ _ _ _ _⟩
 case round =>
  obtain⟨k,hk,hg,rfl,hbl,hrow,hfil⟩:=hrel
  clear hmk
  have HG:=hide hg
  have HF:=hide hfil
  clear hg hfil
  by_cases hlt:k<xs.length
  ·obtain⟨b,o,cs,rfl,_,hb,hcs,hc,hR⟩:=uh HX k hlt
   have hR:=ji.stays _ _ _ _ _ hbl.below hR
   have hc:∀j (hj:j<cs.length),wr.cell? ⟨b,o+k*3+j,none⟩=some cs[j]:=fun j hj=>by rw[hbl.below.cell (p:=⟨b,_,none⟩) hb];exact hc j hj
   obtain⟨cl,rfl,hsn,hty,hcl⟩:=hR
   have Gv:=hide hcl
   clear hcl
   have c0:=hc 0 (by simp)
   have c1:=hc 1 (by simp)
   have c2:=hc 2 (by simp)
   simp only[Nat.mul_one,Nat.add_zero,List.getElem_cons_zero,List.getElem_cons_succ] at c0 c1 c2
   clear hc hcs
   go_wp2_with fail
   refine(aty _ _ _ hsn hty (uh Gv)).mono ?_
   rintro e w1 ⟨cs',rfl,hR1,hb1⟩
   have hrow1:=hrow.below hb1.below
   have Ny:=hR1
   obtain⟨cl1,rfl,aoj,a6e,anb⟩:=hR1
   obtain⟨aa1,ca1,rfl⟩:=anb.shape
   clear anb
   obtain⟨x0,d0⟩:=hrow1.cell (i:=k*3) (by omega)
   have f0:=hrow1.frozen (k*3)
   obtain⟨x1,d1⟩:=hrow1.cell (i:=k*3+1) (by omega)
   have f1:=hrow1.frozen (k*3+1)
   obtain⟨x2,d2⟩:=hrow1.cell (i:=k*3+2) (by omega)
   have f2:=hrow1.frozen (k*3+2)
   have step:=Js ji Dc hlt (Nat.le_refl _) hbl hrow (uh HF) hb1 rfl Ny
   have ST:=hide step
   clear c0 c1 c2 step Ny hrow1
   go_wp2
   go_roundg (xs.length-(k+1))
   case measure=>have:=uh HG;omega
   case rel=>exact⟨k+1,by omega,rfl,by go_num,uh ST⟩
  ·have e:k=xs.length:=by omega
   have hb0:=hrow.lt
   have D:=hide (Nw Dc hb0 (uh Gl) (uh HN) (by have:=uh HF;rwa[e] at this))
   clear hrow
   go_wp2
   go_ret
   exact⟨_,rfl,uh D,hbl⟩
theorem afk:(Tryz.prog.info? 9).map (fun i=>(i.zero,i.size,i.bytes))=some (some (.string ByteArray.empty),1,16):=by kernel_rfl
set_option maxHeartbeats 400000 in
theorem ajx (xs:List ByteArray) (v:Value) (w:World) (hv:bf 1 16 Cc 0 w v xs) :
  Calls Tryz.prog 99 #[v] w (Tt 1 16 Cc w xs):=by
 obtain⟨a,cap,rfl,⟨hnb,_⟩,hn,hx⟩:=hv
 have Gl:=hide hnb
 have HN:=hide hn
 unfold Len at hn hnb
 have HX:=hide hx
 clear hx
 have hmk:=Am (P:=Tryz.prog) 44 9 _ _ _ Tryz.underlying44 afk xs.length hnb hn
 clear hnb
 go_enter Tryz.func99,Tryz.ntmps99
 go_wp2
 go_loopg [4] xs.length (fun g i wr=>∃(k:Nat),k<=xs.length∧g=xs.length-k∧i=.int .i64 k∧ql w.heap.size w wr∧zi wr w.heap.size xs.length∧Jb 1 Cc (w.heap.size+1) wr w.heap.size xs k)
 case atStart=>exact⟨0,Nat.zero_le _,by omega,rfl,(ql.refl _).alloc (Nat.le_refl _) _,zi.made _ _ _ _,Nv _ _ _ _ _ _⟩
 case round =>
  obtain⟨k,hk,hg,rfl,hbl,hrow,hfil⟩:=hrel
  clear hmk
  have HG:=hide hg
  have HF:=hide hfil
  clear hg hfil
  by_cases hlt:k<xs.length
  ·obtain⟨b,o,cs,rfl,_,hb,hcs,hc,hR⟩:=uh HX k hlt
   have hR:=uw.stays _ _ _ _ _ hbl.below hR
   have hc:∀j (hj:j<cs.length),wr.cell? ⟨b,o+k*1+j,none⟩=some cs[j]:=fun j hj=>by rw[hbl.below.cell (p:=⟨b,_,none⟩) hb];exact hc j hj
   obtain⟨rfl,hsn⟩:=hR
   have c0:=hc 0 (by simp)
   simp only[Nat.mul_one,Nat.add_zero,List.getElem_cons_zero,List.getElem_cons_succ] at c0
   clear hc hcs
   obtain⟨x0,d0⟩:=hrow.cell (i:=k) (by omega)
   have f0:=hrow.frozen k
   have step:=Js uw Ih hlt (Nat.le_refl _) hbl (by rw[Nat.mul_one];exact hrow) (uh HF) (ql.refl _) rfl (cs:=[.string xs[k]]) ⟨rfl,hsn⟩
   simp only[Nat.mul_one] at step
   have ST:=hide step
   clear step
   generalize xs[k]=s at *
   go_wp2
   go_roundg (xs.length-(k+1))
   case measure=>have:=uh HG;omega
   case rel=>exact⟨k+1,by omega,rfl,by go_num,uh ST⟩
  ·have e:k=xs.length:=by omega
   have hb0:=hrow.lt
   have D:=hide (Nw Ih hb0 (uh Gl) (uh HN) (by have:=uh HF;rwa[e] at this))
   clear hrow
   go_wp2
   go_ret
   exact⟨_,rfl,uh D,hbl⟩
theorem ag5:(Tryz.prog.info? 45).map (fun i=>(i.zero,i.size,i.bytes))=some (some (.slice none 0 0),1,24):=by kernel_rfl
set_option maxHeartbeats 400000 in
theorem alh (xs:List (List eu)) (v:Value) (w:World) (hv:bf 1 24 yu 0 w v xs) :
  Calls Tryz.prog 101 #[v] w (Tt 1 24 yu w xs):=by
 obtain⟨a,cap,rfl,⟨hnb,_⟩,hn,hx⟩:=hv
 have Gl:=hide hnb
 have HN:=hide hn
 unfold Len at hn hnb
 have HX:=hide hx
 clear hx
 have hmk:=Am (P:=Tryz.prog) 46 45 _ _ _ Tryz.underlying46 ag5 xs.length hnb hn
 clear hnb
 go_enter Tryz.func101,Tryz.ntmps101
 go_wp2
 go_loopg [4] xs.length (fun g i wr=>∃(k:Nat),k<=xs.length∧g=xs.length-k∧i=.int .i64 k∧ql w.heap.size w wr∧zi wr w.heap.size xs.length∧Jb 1 yu (w.heap.size+1) wr w.heap.size xs k)
 case atStart=>exact⟨0,Nat.zero_le _,by omega,rfl,(ql.refl _).alloc (Nat.le_refl _) _,zi.made _ _ _ _,Nv _ _ _ _ _ _⟩
 case round =>
  obtain⟨k,hk,hg,rfl,hbl,hrow,hfil⟩:=hrel
  clear hmk
  have HG:=hide hg
  have HF:=hide hfil
  clear hg hfil
  by_cases hlt:k<xs.length
  ·obtain⟨b,o,cs,rfl,_,hb,hcs,hc,hR⟩:=uh HX k hlt
   have hR:=lq.stays _ _ _ _ _ hbl.below hR
   have hc:∀j (hj:j<cs.length),wr.cell? ⟨b,o+k*1+j,none⟩=some cs[j]:=fun j hj=>by rw[hbl.below.cell (p:=⟨b,_,none⟩) hb];exact hc j hj
   obtain⟨vl,rfl,hcl⟩:=hR
   have Gv:=hide hcl
   clear hcl
   have c0:=hc 0 (by simp)
   simp only[Nat.mul_one,Nat.add_zero,List.getElem_cons_zero,List.getElem_cons_succ] at c0
   clear hc hcs
   go_wp2_with fail
   refine(aei _ _ _ (uh Gv)).mono ?_
   rintro e w1 ⟨v',rfl,hS1,hb1⟩
   have hR1:yu wr.heap.size w1 [v'] xs[k]:=⟨v',rfl,hS1⟩
   have hrow1:=hrow.below hb1.below
   have Ny:=hR1
   obtain⟨aa1,ca1,rfl⟩:=hS1.shape
   clear hS1
   obtain⟨x0,d0⟩:=hrow1.cell (i:=k) (by omega)
   have f0:=hrow1.frozen (k)
   have step:=Js lq J5 hlt (Nat.le_refl _) hbl (by rw[Nat.mul_one];exact hrow) (uh HF) hb1 rfl Ny
   simp only[Nat.mul_one] at step
   have ST:=hide step
   clear c0 step Ny hR1 hrow1
   go_wp2
   go_roundg (xs.length-(k+1))
   case measure=>have:=uh HG;omega
   case rel=>exact⟨k+1,by omega,rfl,by go_num,uh ST⟩
  ·have e:k=xs.length:=by omega
   have hb0:=hrow.lt
   have D:=hide (Nw J5 hb0 (uh Gl) (uh HN) (by have:=uh HF;rwa[e] at this))
   clear hrow
   go_wp2
   go_ret
   exact⟨_,rfl,uh D,hbl⟩
set_option maxHeartbeats 1000000 in
theorem ag6 (x:qg) (a1 a2 a3:Value) (w:World) (hs:Len x.call.size) (h1:bf 1 16 Cc 0 w a1 x.lhs) (h2:bf 3 32 jw 0 w a2 x.code) (h3:bf 1 24 yu 0 w a3 x.args) :
  Calls Tryz.prog 74 #[.agg #[a1,a2,.string x.call,a3]] w (Uz Dt w x):=by
 obtain⟨lhs,code,s,args⟩:=x
 simp only at hs h1 h2 h3
 have Hhs:=hide hs
 clear hs
 have H1:=hide h1
 clear h1
 have H2:=hide h2
 clear h2
 have H3:=hide h3
 clear h3
 go_enter Tryz.func74,Tryz.ntmps74
 go_wp2_with fail
 refine(ajx lhs _ _ ?_).mono ?_
 ·exact(uh H1).stays uw ((((Below.refl _ _).alloc (Nat.le_refl _) _).alloc (by simp) _).alloc (by simp<;>omega) _)
 rintro e w1 ⟨v1,rfl,hS,hb⟩
 obtain⟨b1,cap1,rfl⟩:=hS.shape
 obtain⟨hc1,hf1⟩:=pq hb.below
 have hz:=hb.below.size
 simp only[World.size_alloc,Deep.nblk_setCell] at hz hc1 hf1
 have Fb:=hide (hS.lower Ih (lo':=w.heap.size+1+1+1) (by simp<;>omega))
 have HB1:Hid (ql w.heap.size w w1):=((((ql.refl _).alloc (Nat.le_refl _) _).alloc (by simp) _).alloc (by simp<;>omega) _).and hb (by simp<;>omega)
 have Au:w.heap.size<w1.heap.size:=by omega
 have Xp:w.heap.size+1<w1.heap.size:=by omega
 have adk:w.heap.size+1+1<w1.heap.size:=by omega
 clear hS hb hz
 go_wp2_with fail
 refine(aei code _ _ ?_).mono ?_
 ·exact(uh H2).stays je (by repeat (first|refine Below.setCell ?_ (by simp<;>omega) _|exact(uh HB1).below))
 rintro e w2 ⟨v2,rfl,hS,hb⟩
 obtain⟨b2,cap2,rfl⟩:=hS.shape
 obtain⟨hc2,hf2⟩:=pq hb.below
 have hz:=hb.below.size
 simp only[World.size_alloc,Deep.nblk_setCell] at hz hc2 hf2
 have HS2:=hide (hS.lower Ja (lo':=w.heap.size+1+1+1) (by simp<;>omega))
 have HB2:Hid (ql w.heap.size w w2):=by
  refine ql.and ?_ hb (by simp<;>omega)
  repeat (first|refine ql.setCell ?_ (by simp<;>omega) _|exact uh HB1)
 have HK:Kept (w.heap.size+1+1+1) w1.heap.size w1 w2:=by
  refine Kept.trans ?_ (Kept.of_below hb.below) (by simp<;>omega)
  repeat (first|refine Kept.setCell ?_ (by simp<;>omega) _|exact Kept.refl _ _ _)
 replace Fb:=hide ((uh Fb).kept uw HK)
 clear HK
 have Rl:w.heap.size<w2.heap.size:=by omega
 have afl:w.heap.size+1<w2.heap.size:=by omega
 have atz:w.heap.size+1+1<w2.heap.size:=by omega
 clear hS hb hz
 go_wp2_with fail
 refine(alh args _ _ ?_).mono ?_
 ·exact(uh H3).stays lq (by repeat (first|refine Below.setCell ?_ (by simp<;>omega) _|exact(uh HB2).below))
 rintro e w3 ⟨v3,rfl,hS,hb⟩
 obtain⟨b3,cap3,rfl⟩:=hS.shape
 obtain⟨hc3,hf3⟩:=pq hb.below
 have hz:=hb.below.size
 simp only[World.size_alloc,Deep.nblk_setCell] at hz hc3 hf3
 have Ee:=hide (hS.lower J5 (lo':=w.heap.size+1+1+1) (by simp<;>omega))
 have HB3:Hid (ql w.heap.size w w3):=by
  refine ql.and ?_ hb (by simp<;>omega)
  repeat (first|refine ql.setCell ?_ (by simp<;>omega) _|exact uh HB2)
 have HK:Kept (w.heap.size+1+1+1) w2.heap.size w2 w3:=by
  refine Kept.trans ?_ (Kept.of_below hb.below) (by simp<;>omega)
  repeat (first|refine Kept.setCell ?_ (by simp<;>omega) _|exact Kept.refl _ _ _)
 replace Fb:=hide ((uh Fb).kept uw HK)
 replace HS2:=hide ((uh HS2).kept je HK)
 clear HK
 have aa7:w.heap.size<w3.heap.size:=by omega
 have ajy:w.heap.size+1<w3.heap.size:=by omega
 have at1:w.heap.size+1+1<w3.heap.size:=by omega
 clear hS hb hz
 go_wp2
 refine bodyPost_ret (v:=.agg #[.slice b1 lhs.length cap1,.slice b2 code.length cap2,.string s,.slice b3 args.length cap3]) (by simp[results,Tryz.results74,go_sem,hc1,Au,Xp,adk,hc2,Rl,afl,atz,hc3,aa7,ajy,at1]) rfl ⟨[.slice b1 lhs.length cap1,.slice b2 code.length cap2,.string s,.slice b3 args.length cap3],rfl,⟨_,_,_,rfl,uh Hhs,?_,?_,?_⟩,?_⟩
 ·exact((uh Fb).kept uw (by repeat (first|refine Kept.setCell ?_ (by simp<;>omega) _|exact Kept.refl _ _ _))).lower Ih (by omega)
 ·exact((uh HS2).kept je (by repeat (first|refine Kept.setCell ?_ (by simp<;>omega) _|exact Kept.refl _ _ _))).lower Ja (by omega)
 ·exact((uh Ee).kept lq (by repeat (first|refine Kept.setCell ?_ (by simp<;>omega) _|exact Kept.refl _ _ _))).lower J5 (by omega)
 ·repeat (first|refine ql.setCell ?_ (by simp<;>omega) _|exact uh HB3)
theorem adl:(Tryz.prog.info? 48).map (fun i=>(i.zero,i.size,i.bytes))=some (some (.agg #[.slice none 0 0,.slice none 0 0,.string ByteArray.empty,.slice none 0 0]),4,88):=by kernel_rfl
set_option maxHeartbeats 400000 in
theorem afm (xs:List qg) (v:Value) (w:World) (hv:bf 4 88 Dt 0 w v xs) :
  Calls Tryz.prog 45 #[v] w (Tt 4 88 Dt w xs):=by
 obtain⟨a,cap,rfl,⟨hnb,_⟩,hn,hx⟩:=hv
 have Gl:=hide hnb
 have HN:=hide hn
 unfold Len at hn hnb
 have HX:=hide hx
 clear hx
 have hmk:=Am (P:=Tryz.prog) 40 48 _ _ _ Tryz.underlying40 adl xs.length hnb hn
 clear hnb
 go_enter Tryz.func45,Tryz.ntmps45
 go_wp2
 go_loopg [4] xs.length (fun g i wr=>∃(k:Nat),k<=xs.length∧g=xs.length-k∧i=.int .i64 k∧ql w.heap.size w wr∧zi wr w.heap.size (xs.length*4)∧Jb 4 Dt (w.heap.size+1) wr w.heap.size xs k)
 case atStart=>exact⟨0,Nat.zero_le _,by omega,rfl,(ql.refl _).alloc (Nat.le_refl _) _,zi.made _ _ _ _,Nv _ _ _ _ _ _⟩
 case round =>
  obtain⟨k,hk,hg,rfl,hbl,hrow,hfil⟩:=hrel
  clear hmk
  have HG:=hide hg
  have HF:=hide hfil
  clear hg hfil
  by_cases hlt:k<xs.length
  ·obtain⟨b,o,cs,rfl,_,hb,hcs,hc,hR⟩:=uh HX k hlt
   have hR:=xq.stays _ _ _ _ _ hbl.below hR
   have hc:∀j (hj:j<cs.length),wr.cell? ⟨b,o+k*4+j,none⟩=some cs[j]:=fun j hj=>by rw[hbl.below.cell (p:=⟨b,_,none⟩) hb];exact hc j hj
   obtain⟨l,c,aa,rfl,hsn,g1,g2,g3⟩:=hR
   have G1:=hide g1
   have G2:=hide g2
   have G3:=hide g3
   clear g1 g2 g3
   have c0:=hc 0 (by simp)
   have c1:=hc 1 (by simp)
   have c2:=hc 2 (by simp)
   have c3:=hc 3 (by simp)
   simp only[Nat.mul_one,Nat.add_zero,List.getElem_cons_zero,List.getElem_cons_succ] at c0 c1 c2 c3
   clear hc hcs
   go_wp2_with fail
   refine(ag6 _ _ _ _ _ hsn (uh G1) (uh G2) (uh G3)).mono ?_
   rintro e w1 ⟨cs',rfl,hR1,hb1⟩
   have hrow1:=hrow.below hb1.below
   have Ny:=hR1
   obtain⟨l1,c1,a1,rfl,aoj,g1,g2,g3⟩:=hR1
   obtain⟨aa1,ca1,rfl⟩:=g1.shape
   clear g1
   obtain⟨aa2,ca2,rfl⟩:=g2.shape
   clear g2
   obtain⟨aa3,ca3,rfl⟩:=g3.shape
   clear g3
   obtain⟨x0,d0⟩:=hrow1.cell (i:=k*4) (by omega)
   have f0:=hrow1.frozen (k*4)
   obtain⟨x1,d1⟩:=hrow1.cell (i:=k*4+1) (by omega)
   have f1:=hrow1.frozen (k*4+1)
   obtain⟨x2,d2⟩:=hrow1.cell (i:=k*4+2) (by omega)
   have f2:=hrow1.frozen (k*4+2)
   obtain⟨x3,d3⟩:=hrow1.cell (i:=k*4+3) (by omega)
   have f3:=hrow1.frozen (k*4+3)
   have step:=Js xq Rk hlt (Nat.le_refl _) hbl hrow (uh HF) hb1 rfl Ny
   have ST:=hide step
   clear c0 c1 c2 c3 step Ny hrow1
   go_wp2
   go_roundg (xs.length-(k+1))
   case measure=>have:=uh HG;omega
   case rel=>exact⟨k+1,by omega,rfl,by go_num,uh ST⟩
  ·have e:k=xs.length:=by omega
   have hb0:=hrow.lt
   have D:=hide (Nw Rk hb0 (uh Gl) (uh HN) (by have:=uh HF;rwa[e] at this))
   clear hrow
   go_wp2
   go_ret
   exact⟨_,rfl,uh D,hbl⟩
end Go.Proofs.YtflcnhfakcgkeaaGreat
