import Derived.WalkKit
import Derived.WalkSpells
import Derived.Deep.OwnRows
import Derived.Test.YtflcnhfakcgkeaaGreatProg
import Derived.WalkLawsBesides
import Derived.Deep.LoopGhost
namespace Go.Proofs.YtflcnhfakcgkeaaGreat
open Go.RowKit
theorem hide {p:Prop} (h:p):Hid p:=h
theorem uh {p:Prop} (h:Hid p):p:=h
structure cu where
 name:ByteArray
 on:Bool
structure gy where
 name:ByteArray
 type:Int
 clock:List cu
structure eu where
 op:Int
 val:Int
 name:ByteArray
structure qg where
 lhs:List ByteArray
 code:List eu
 call:ByteArray
 args:List (List eu)
structure ay where
 name:ByteArray
 ins:List gy
 outs:List gy
 vars:List gy
 eqs:List qg
def I64 (x:Int):Prop:=-9223372036854775808<=x∧x<=9223372036854775807
def Len (n:Nat):Prop:=n<=140737488355328
def Kept (lo hi:Nat) (w w':World):Prop:=w.heap.size<=w'.heap.size∧∀k,lo<=k->k<hi->w'.heap[k]?=w.heap[k]?
theorem Kept.of_below {lo B:Nat} {w w':World} (h:Below B w w'):Kept lo B w w':=⟨h.size,fun k _ hk=>h.block k hk⟩
theorem Kept.cell {lo hi:Nat} {w w':World} (h:Kept lo hi w w') {p:Addr} (h1:lo<=p.block) (h2:p.block<hi):w'.cell? p=w.cell? p:=World.cell?_of_block (w:=w) (h.2 p.block h1 h2)
theorem Kept.refl (lo hi:Nat) (w:World):Kept lo hi w w:=⟨Nat.le_refl _,fun _ _ _=>rfl⟩
theorem Kept.trans {lo hi hi':Nat} {w w' w'':World} (h:Kept lo hi w w') (k:Kept lo hi' w' w'') (hh:hi<=hi'):Kept lo hi w w'' :=
 ⟨Nat.le_trans h.1 k.1,fun i h1 h2=>(k.2 i h1 (by omega)).trans (h.2 i h1 h2)⟩
theorem Kept.setCell {lo hi:Nat} {w w':World} (h:Kept lo hi w w') {p:Addr} (hp:p.block<lo) (u:Value):Kept lo hi w (w'.setCell p u) :=
 ⟨by simpa[World.setCell] using h.1,fun k h1 h2=>by rw[Below.heap_setCell _ _ _ _ (by omega)];exact h.2 k h1 h2⟩
def bf {α:Type} (sz oz:Nat) (R:Nat->World->List Value->α->Prop) (lo:Nat) (w:World) (v:Value) (xs:List α):Prop :=
 ∃a cap,v=.slice a xs.length cap∧(Len (xs.length*oz)∧xs.length<=cap)∧Len xs.length∧∀i (h:i<xs.length),∃b o cs,a=some ⟨b,o,none⟩∧lo<=b∧b<w.heap.size∧cs.length=sz ∧
  (∀j (hj:j<cs.length),w.cell? ⟨b,o+i*sz+j,none⟩=some cs[j])∧R lo w cs xs[i]
def Gm {α:Type} (R:Nat->World->List Value->α->Prop):Prop:=∀lo w w' cs x,Kept lo w.heap.size w w'->R lo w cs x->R lo w' cs x
def a1c {α:Type} (R:Nat->World->List Value->α->Prop):Prop:=∀lo w w' cs x,Below w.heap.size w w'->R lo w cs x->R lo w' cs x
def Lowers {α:Type} (R:Nat->World->List Value->α->Prop):Prop:=∀lo lo' w cs x,lo'<=lo->R lo w cs x->R lo' w cs x
theorem Gm.stays {α:Type} {R:Nat->World->List Value->α->Prop} (h:Gm R):a1c R:=fun _ _ _ _ _ hb hr=>h _ _ _ _ _ (Kept.of_below hb) hr
theorem bf.kept {α:Type} {sz oz lo:Nat} {R:Nat->World->List Value->α->Prop} (hR:Gm R) {w w':World} {v:Value} {xs:List α} (hb:Kept lo w.heap.size w w') (h:bf sz oz R lo w v xs):bf sz oz R lo w' v xs:=by
 obtain⟨a,cap,rfl,hl,hl2,h⟩:=h
 refine⟨a,cap,rfl,hl,hl2,fun i hi=>?_⟩
 obtain⟨b,o,cs,ha,hlo,hbl,hcs,hc,hr⟩:=h i hi
 exact⟨b,o,cs,ha,hlo,Nat.lt_of_lt_of_le hbl hb.1,hcs,fun j hj=>by rw[hb.cell (p:=⟨b,_,none⟩) hlo hbl];exact hc j hj,hR _ _ _ _ _ hb hr⟩
theorem bf.shape {α:Type} {sz oz lo:Nat} {R:Nat->World->List Value->α->Prop} {w:World} {v:Value} {xs:List α} (h:bf sz oz R lo w v xs):∃a cap,v=.slice a xs.length cap:=by
 obtain⟨a,cap,hv,_⟩:=h
 exact⟨a,cap,hv⟩
theorem bf.stays {α:Type} {sz oz lo:Nat} {R:Nat->World->List Value->α->Prop} (hR:Gm R) {w w':World} {v:Value} {xs:List α} (hb:Below w.heap.size w w') (h:bf sz oz R lo w v xs):bf sz oz R lo w' v xs:=h.kept hR (Kept.of_below hb)
theorem bf.lower {α:Type} {sz oz lo lo':Nat} {R:Nat->World->List Value->α->Prop} (hR:Lowers R) {w:World} {v:Value} {xs:List α} (hl:lo'<=lo) (h:bf sz oz R lo w v xs):bf sz oz R lo' w v xs:=by
 obtain⟨a,cap,rfl,hl1,hl2,h⟩:=h
 refine⟨a,cap,rfl,hl1,hl2,fun i hi=>?_⟩
 obtain⟨b,o,cs,ha,hlo,hbl,hcs,hc,hr⟩:=h i hi
 exact⟨b,o,cs,ha,Nat.le_trans hl hlo,hbl,hcs,hc,hR _ _ _ _ _ hl hr⟩
def Cc (_:Nat) (_:World) (cs:List Value) (s:ByteArray):Prop:=cs=[.string s]∧Len s.size
def jm (_:Nat) (_:World) (cs:List Value) (c:cu):Prop:=cs=[.string c.name,.bool c.on]∧Len c.name.size
def RVar (lo:Nat) (w:World) (cs:List Value) (v:gy):Prop:=∃cl,cs=[.string v.name,.int .i64 v.type,cl]∧Len v.name.size∧I64 v.type∧bf 2 24 jm lo w cl v.clock
def jw (_:Nat) (_:World) (cs:List Value) (t:eu):Prop:=cs=[.int .i64 t.op,.int .i64 t.val,.string t.name]∧Len t.name.size∧I64 t.op∧I64 t.val
def yu (lo:Nat) (w:World) (cs:List Value) (l:List eu):Prop:=∃v,cs=[v]∧bf 3 32 jw lo w v l
def Dt (lo:Nat) (w:World) (cs:List Value) (e:qg):Prop:=∃l c a,cs=[l,c,.string e.call,a]∧Len e.call.size∧bf 1 16 Cc lo w l e.lhs∧bf 3 32 jw lo w c e.code∧bf 1 24 yu lo w a e.args
def o7 (lo:Nat) (w:World) (cs:List Value) (n:ay):Prop:=∃i o v e,cs=[.string n.name,i,o,v,e]∧Len n.name.size∧bf 3 48 RVar lo w i n.ins∧bf 3 48 RVar lo w o n.outs∧bf 3 48 RVar lo w v n.vars∧bf 4 88 Dt lo w e n.eqs
def Oo (_:Nat) (_:World) (cs:List Value) (x:Int):Prop:=cs=[.int .i64 x]∧I64 x
theorem Qk:Gm Oo:=fun _ _ _ _ _ _ h=>h
theorem O7:Lowers Oo:=fun _ _ _ _ _ _ h=>h
theorem uw:Gm Cc:=fun _ _ _ _ _ _ h=>h
theorem lg:Gm jm:=fun _ _ _ _ _ _ h=>h
theorem je:Gm jw:=fun _ _ _ _ _ _ h=>h
theorem ji:Gm RVar:=fun _ _ _ _ _ hb ⟨cl,h1,h2,h3,h4⟩=>⟨cl,h1,h2,h3,h4.kept lg hb⟩
theorem lq:Gm yu:=fun _ _ _ _ _ hb ⟨v,h1,h2⟩=>⟨v,h1,h2.kept je hb⟩
theorem xq:Gm Dt:=fun _ _ _ _ _ hb ⟨l,c,a,h1,h2,h3,h4,h5⟩=>⟨l,c,a,h1,h2,h3.kept uw hb,h4.kept je hb,h5.kept lq hb⟩
theorem jk:Gm o7:=fun _ _ _ _ _ hb ⟨i,o,v,e,h1,h2,h3,h4,h5,h6⟩=>⟨i,o,v,e,h1,h2,h3.kept ji hb,h4.kept ji hb,h5.kept ji hb,h6.kept xq hb⟩
theorem Ih:Lowers Cc:=fun _ _ _ _ _ _ h=>h
theorem Ns:Lowers jm:=fun _ _ _ _ _ _ h=>h
theorem Ja:Lowers jw:=fun _ _ _ _ _ _ h=>h
theorem Dc:Lowers RVar:=fun _ _ _ _ _ hb ⟨cl,h1,h2,h3,h4⟩=>⟨cl,h1,h2,h3,h4.lower Ns hb⟩
theorem J5:Lowers yu:=fun _ _ _ _ _ hb ⟨v,h1,h2⟩=>⟨v,h1,h2.lower Ja hb⟩
theorem Rk:Lowers Dt:=fun _ _ _ _ _ hb ⟨l,c,a,h1,h2,h3,h4,h5⟩=>⟨l,c,a,h1,h2,h3.lower Ih hb,h4.lower Ja hb,h5.lower J5 hb⟩
theorem Fj:Lowers o7:=fun _ _ _ _ _ hb ⟨i,o,v,e,h1,h2,h3,h4,h5,h6⟩=>⟨i,o,v,e,h1,h2,h3.lower Dc hb,h4.lower Dc hb,h5.lower Dc hb,h6.lower Rk hb⟩
def Bc {α:Type} (f:α->Nat) (xs:List α):Nat:=xs.length+(xs.map f).sum
def Y9 (c:cu):Nat:=c.name.size
def Xo (v:gy):Nat:=v.name.size+Bc Y9 v.clock
def Pe (t:eu):Nat:=t.name.size
def afh (s:ByteArray):Nat:=s.size
def wEq (e:qg):Nat:=Bc afh e.lhs+Bc Pe e.code+e.call.size+Bc (Bc Pe) e.args
def Pg (n:ay):Nat:=n.name.size+Bc Xo n.ins+Bc Xo n.outs+Bc Xo n.vars+Bc wEq n.eqs
def uf {α:Type} (f:α->Nat) (xs:List α) (k:Nat):Nat:=((xs.take k).map f).sum
theorem D8 {α:Type} (f:α->Nat) (xs:List α):uf f xs 0=0:=by simp[uf]
theorem Dk {α:Type} (f:α->Nat) (xs:List α) (k:Nat) (h:k<xs.length):uf f xs (k+1)=uf f xs k+f xs[k]:=by
 unfold uf
 rw[List.take_succ_eq_append_getElem h]
 simp only[List.map_append,List.map_cons,List.map_nil,List.sum_append,List.sum_cons,List.sum_nil,Nat.add_zero]
theorem Tq {α:Type} (f:α->Nat) (xs:List α):xs.length+uf f xs xs.length=Bc f xs:=by simp[uf,Bc]
theorem Am {P:Program} (t e:TypeId) (z:Value) (size bytes:Nat) (ht:P.underlying t=some (.slice e)) (hinfo:(P.info? e).map (fun i=>(i.zero,i.size,i.bytes))=some (some z,size,bytes)) (n:Nat) (hb:n*bytes<=140737488355328) (hn:n<=140737488355328) (w:World) :
  (Instr.makeSlice t (.int .i64 (n:Int)) (.int .i64 (n:Int))).run P w=.ok (.slice (some ⟨w.heap.size,0,none⟩) n n) (w.alloc (.cells (madeCells z.cells (n*size)) e)):=by
 obtain⟨i,hi,hzz⟩:=Option.map_eq_some_iff.1 hinfo
 simp only[Prod.mk.injEq] at hzz
 obtain⟨hz,hs,hbt⟩:=hzz
 have hb':(i.bytes:Int)*(n:Int)<=281474976710656:=by
  have h:((i.bytes*n:Nat):Int)<=281474976710656:=by rw[hbt,Nat.mul_comm];omega
  rwa[Int.natCast_mul] at h
 have hr:=run_make (P:=P) w t e i z ht hi hz .i64 .i64 n n (by omega) (Int.le_refl _) hb' (by omega)
 simp only[Int.toNat_natCast,hs] at hr
 exact hr
def zi (w:World) (b:Nat) (n:Nat):Prop:=∃c t,w.heap[b]?=some (.cells c t (0,0))∧c.size=n
theorem zi.lt {w:World} {b n:Nat} (h:zi w b n):b<w.heap.size:=by
 obtain⟨c,t,hb,_⟩:=h
 exact(Array.getElem?_eq_some_iff.1 hb).1
theorem zi.cell {w:World} {b n:Nat} (h:zi w b n) {i:Nat} (hi:i<n):∃u,w.cell? ⟨b,i,none⟩=some u:=by
 obtain⟨c,t,hb,hn⟩:=h
 exact⟨c[i],by simp[World.cell?,hb,hn,hi]⟩
theorem zi.frozen {w:World} {b n:Nat} (h:zi w b n) (i:Nat):w.frozen? ⟨b,i,none⟩=false:=by
 obtain⟨c,t,hb,_⟩:=h
 simp[World.frozen?,hb]
theorem zi.below {w w':World} {b n:Nat} (h:zi w b n) (hb:Below w.heap.size w w'):zi w' b n:=by
 have hlt:=h.lt
 obtain⟨c,t,hc,hn⟩:=h
 exact⟨c,t,(hb.block b hlt).trans hc,hn⟩
theorem zi.set {w:World} {b n:Nat} (h:zi w b n) (i:Nat) (u:Value):zi (w.setCell ⟨b,i,none⟩ u) b n:=by
 obtain⟨c,t,hc,hn⟩:=h
 exact⟨c.setIfInBounds i u,t,by simp[World.setCell,Array.getElem?_modify,hc],by simpa using hn⟩
theorem zi.made (w:World) (cs:Array Value) (n:Nat) (t:TypeId):zi (w.alloc (.cells (madeCells cs n) t)) w.heap.size n :=
 ⟨_,t,Deep.blk_alloc_new _ _,size_madeCells _ _⟩
def Jb {α:Type} (sz:Nat) (R:Nat->World->List Value->α->Prop) (lo:Nat) (w:World) (b:Nat) (xs:List α) (k:Nat):Prop :=
 ∀i (h:i<xs.length),i<k->∃cs,cs.length=sz∧(∀j (hj:j<cs.length),w.cell? ⟨b,i*sz+j,none⟩=some cs[j])∧R lo w cs xs[i]
theorem pq {W w1:World} (hb:Below W.heap.size W w1):(∀b o,b<W.heap.size->w1.cell? ⟨b,o,none⟩=W.cell? ⟨b,o,none⟩)∧(∀b o,b<W.heap.size->w1.frozen? ⟨b,o,none⟩=W.frozen? ⟨b,o,none⟩) :=
 ⟨fun b o h=>hb.cell (p:=⟨b,o,none⟩) h,fun b o h=>hb.frozen (p:=⟨b,o,none⟩) h⟩
end Go.Proofs.YtflcnhfakcgkeaaGreat
namespace Go.Proofs.YtflcnhfakcgkeaaGreat
open Go.RowKit
set_option linter.unusedSimpArgs false
set_option linter.unusedVariables false
def Jc (w:World) (left:Int) (wt:Nat) (e:Ending) (w':World):Prop :=
 ∃r:Int,e=.returned (.int .i64 r)∧(r = -1∨0<=r∧r+wt<=left)∧Below w.heap.size w w'
theorem aqd (c:cu) (left:Int) (w:World) (hs:Len c.name.size) (hl:0<=left) (hl2:left<=1048576) :
  Calls Tryz.prog 117 #[.agg #[.string c.name,.bool c.on],.int .i64 left] w (Jc w left (Y9 c)):=by
 obtain⟨s,on⟩:=c
 unfold Len at hs
 simp only at hs
 by_cases h:left-s.size<0
 all_goals
  go_enter Tryz.func117,Tryz.ntmps117
  go_wp2
  go_ret
 ·exact⟨_,rfl,Or.inl rfl,(Below.refl _ _).alloc (Nat.le_refl _) _⟩
 ·exact⟨_,rfl,Or.inr ⟨by omega,by simp only[Y9];omega⟩,(Below.refl _ _).alloc (Nat.le_refl _) _⟩
theorem aqe (t:eu) (left:Int) (w:World) (hs:Len t.name.size) (hl:0<=left) (hl2:left<=1048576) :
  Calls Tryz.prog 118 #[.agg #[.int .i64 t.op,.int .i64 t.val,.string t.name],.int .i64 left] w (Jc w left (Pe t)):=by
 obtain⟨op,val,s⟩:=t
 unfold Len at hs
 simp only at hs
 by_cases h:left-s.size<0
 all_goals
  go_enter Tryz.func118,Tryz.ntmps118
  go_wp2
  go_ret
 ·exact⟨_,rfl,Or.inl rfl,(Below.refl _ _).alloc (Nat.le_refl _) _⟩
 ·exact⟨_,rfl,Or.inr ⟨by omega,by simp only[Pe];omega⟩,(Below.refl _ _).alloc (Nat.le_refl _) _⟩
set_option maxHeartbeats 400000 in
theorem aoe (xs:List cu) (v:Value) (left:Int) (w:World) (hv:bf 2 24 jm 0 w v xs) (hl:0<=left) (hl2:left<=1048576) :
  Calls Tryz.prog 89 #[v,.int .i64 left] w (Jc w left (Bc Y9 xs)):=by
 obtain⟨a,cap,rfl,_,hn,hx⟩:=hv
 unfold Len at hn
 have HX:=hide hx
 clear hx
 by_cases h:left-xs.length<0
 ·go_enter Tryz.func89,Tryz.ntmps89
  go_wp2
  go_ret
  exact⟨_,rfl,Or.inl rfl,Below.refl _ _⟩
 ·go_enter Tryz.func89,Tryz.ntmps89
  go_wp2
  go_loopg [1,5] xs.length (fun g l i wr=>∃(k:Nat) (r:Int),k<=xs.length∧g=xs.length-k∧i=.int .i64 k∧l=.int .i64 r∧0<=r∧r<=left-xs.length-uf Y9 xs k∧Below w.heap.size w wr)
  case atStart=>exact⟨0,left-xs.length,Nat.zero_le _,by omega,rfl,rfl,by omega,by rw[D8];omega,Below.refl _ _⟩
  case round =>
   obtain⟨k,r,hk,hg,rfl,rfl,hr0,hr1,hbl⟩:=hrel
   by_cases hlt:k<xs.length
   ·obtain⟨b,o,cs,rfl,_,hb,hcs,hc,hR⟩:=uh HX k hlt
    have hR:=lg.stays _ _ _ _ _ hbl hR
    have hc:∀j (hj:j<cs.length),wr.cell? ⟨b,o+k*2+j,none⟩=some cs[j]:=fun j hj=>by rw[hbl.cell (p:=⟨b,_,none⟩) hb];exact hc j hj
    obtain⟨rfl,hsn⟩:=hR
    have c0:=hc 0 (by simp)
    have c1:=hc 1 (by simp)
    simp only[Nat.mul_one,Nat.add_zero,List.getElem_cons_zero,List.getElem_cons_succ] at c0 c1
    have hw:=Dk Y9 xs k hlt
    have HW:=hide hw
    have HG:=hide hg
    clear hw hg hc hcs
    go_wp2_with fail
    refine(aqd _ _ _ hsn hr0 (by omega)).mono ?_
    rintro e w1 ⟨r',rfl,hr|⟨h0,h1⟩,hb1⟩
    ·subst hr
     go_wp2
     go_ret
     exact⟨_,rfl,Or.inl rfl,hbl.trans (hb1.mono hbl.size)⟩
    ·go_wp2
     go_roundg (xs.length-(k+1))
     case measure=>have:=uh HG;omega
     case rel=>exact⟨k+1,r',by omega,rfl,by go_num,rfl,h0,by rw[uh HW];omega,hbl.trans (hb1.mono hbl.size)⟩
   ·go_wp2
    go_ret
    have e:k=xs.length:=by omega
    subst e
    exact⟨_,rfl,Or.inr ⟨hr0,by rw[←Tq];omega⟩,hbl⟩
set_option maxHeartbeats 400000 in
theorem aed (xs:List eu) (v:Value) (left:Int) (w:World) (hv:bf 3 32 jw 0 w v xs) (hl:0<=left) (hl2:left<=1048576) :
  Calls Tryz.prog 91 #[v,.int .i64 left] w (Jc w left (Bc Pe xs)):=by
 obtain⟨a,cap,rfl,_,hn,hx⟩:=hv
 unfold Len at hn
 have HX:=hide hx
 clear hx
 by_cases h:left-xs.length<0
 ·go_enter Tryz.func91,Tryz.ntmps91
  go_wp2
  go_ret
  exact⟨_,rfl,Or.inl rfl,Below.refl _ _⟩
 ·go_enter Tryz.func91,Tryz.ntmps91
  go_wp2
  go_loopg [1,5] xs.length (fun g l i wr=>∃(k:Nat) (r:Int),k<=xs.length∧g=xs.length-k∧i=.int .i64 k∧l=.int .i64 r∧0<=r∧r<=left-xs.length-uf Pe xs k∧Below w.heap.size w wr)
  case atStart=>exact⟨0,left-xs.length,Nat.zero_le _,by omega,rfl,rfl,by omega,by rw[D8];omega,Below.refl _ _⟩
  case round =>
   obtain⟨k,r,hk,hg,rfl,rfl,hr0,hr1,hbl⟩:=hrel
   by_cases hlt:k<xs.length
   ·obtain⟨b,o,cs,rfl,_,hb,hcs,hc,hR⟩:=uh HX k hlt
    have hR:=je.stays _ _ _ _ _ hbl hR
    have hc:∀j (hj:j<cs.length),wr.cell? ⟨b,o+k*3+j,none⟩=some cs[j]:=fun j hj=>by rw[hbl.cell (p:=⟨b,_,none⟩) hb];exact hc j hj
    obtain⟨rfl,hsn,ho,hvl⟩:=hR
    have c0:=hc 0 (by simp)
    have c1:=hc 1 (by simp)
    have c2:=hc 2 (by simp)
    simp only[Nat.mul_one,Nat.add_zero,List.getElem_cons_zero,List.getElem_cons_succ] at c0 c1 c2
    have hw:=Dk Pe xs k hlt
    have HW:=hide hw
    have HG:=hide hg
    clear hw hg hc hcs
    go_wp2_with fail
    refine(aqe _ _ _ hsn hr0 (by omega)).mono ?_
    rintro e w1 ⟨r',rfl,hr|⟨h0,h1⟩,hb1⟩
    ·subst hr
     go_wp2
     go_ret
     exact⟨_,rfl,Or.inl rfl,hbl.trans (hb1.mono hbl.size)⟩
    ·go_wp2
     go_roundg (xs.length-(k+1))
     case measure=>have:=uh HG;omega
     case rel=>exact⟨k+1,r',by omega,rfl,by go_num,rfl,h0,by rw[uh HW];omega,hbl.trans (hb1.mono hbl.size)⟩
   ·go_wp2
    go_ret
    have e:k=xs.length:=by omega
    subst e
    exact⟨_,rfl,Or.inr ⟨hr0,by rw[←Tq];omega⟩,hbl⟩
set_option maxHeartbeats 400000 in
theorem atu (v:gy) (cl:Value) (left:Int) (w:World) (hs:Len v.name.size) (hcl:bf 2 24 jm 0 w cl v.clock) (hl:0<=left) (hl2:left<=1048576) :
  Calls Tryz.prog 60 #[.agg #[.string v.name,.int .i64 v.type,cl],.int .i64 left] w (Jc w left (Xo v)):=by
 obtain⟨s,ty,clk⟩:=v
 unfold Len at hs
 simp only at hs hcl
 by_cases h:left-s.size<0
 ·go_enter Tryz.func60,Tryz.ntmps60
  go_wp2
  go_ret
  exact⟨_,rfl,Or.inl rfl,(Below.refl _ _).alloc (Nat.le_refl _) _⟩
 ·have HC:=hide hcl
  clear hcl
  go_enter Tryz.func60,Tryz.ntmps60
  go_wp2_with fail
  refine(aoe clk _ _ _ ?_ ?_ ?_).mono ?_
  ·exact(uh HC).stays lg ((Below.refl _ _).alloc (Nat.le_refl _) _)
  ·omega
  ·omega
  rintro e w1 ⟨r',rfl,hr|⟨h0,h1⟩,hb1⟩
  ·subst hr
   go_wp2
   go_ret
   exact⟨_,rfl,Or.inl rfl,((Below.refl _ _).alloc (Nat.le_refl _) _).trans (hb1.mono (by simp))⟩
  ·go_wp2
   go_ret
   exact⟨_,rfl,Or.inr ⟨h0,by simp only[Xo];omega⟩,((Below.refl _ _).alloc (Nat.le_refl _) _).trans (hb1.mono (by simp))⟩
set_option maxHeartbeats 400000 in
theorem aaw (xs:List gy) (v:Value) (left:Int) (w:World) (hv:bf 3 48 RVar 0 w v xs) (hl:0<=left) (hl2:left<=1048576) :
  Calls Tryz.prog 35 #[v,.int .i64 left] w (Jc w left (Bc Xo xs)):=by
 obtain⟨a,cap,rfl,_,hn,hx⟩:=hv
 unfold Len at hn
 have HX:=hide hx
 clear hx
 by_cases h:left-xs.length<0
 ·go_enter Tryz.func35,Tryz.ntmps35
  go_wp2
  go_ret
  exact⟨_,rfl,Or.inl rfl,Below.refl _ _⟩
 ·go_enter Tryz.func35,Tryz.ntmps35
  go_wp2
  go_loopg [1,5] xs.length (fun g l i wr=>∃(k:Nat) (r:Int),k<=xs.length∧g=xs.length-k∧i=.int .i64 k∧l=.int .i64 r∧0<=r∧r<=left-xs.length-uf Xo xs k∧Below w.heap.size w wr)
  case atStart=>exact⟨0,left-xs.length,Nat.zero_le _,by omega,rfl,rfl,by omega,by rw[D8];omega,Below.refl _ _⟩
  case round =>
   obtain⟨k,r,hk,hg,rfl,rfl,hr0,hr1,hbl⟩:=hrel
   by_cases hlt:k<xs.length
   ·obtain⟨b,o,cs,rfl,_,hb,hcs,hc,hR⟩:=uh HX k hlt
    have hR:=ji.stays _ _ _ _ _ hbl hR
    have hc:∀j (hj:j<cs.length),wr.cell? ⟨b,o+k*3+j,none⟩=some cs[j]:=fun j hj=>by rw[hbl.cell (p:=⟨b,_,none⟩) hb];exact hc j hj
    obtain⟨cl,rfl,hsn,hty,hcl⟩:=hR
    have Gv:=hide hcl
    clear hcl
    have c0:=hc 0 (by simp)
    have c1:=hc 1 (by simp)
    have c2:=hc 2 (by simp)
    simp only[Nat.mul_one,Nat.add_zero,List.getElem_cons_zero,List.getElem_cons_succ] at c0 c1 c2
    have hw:=Dk Xo xs k hlt
    have HW:=hide hw
    have HG:=hide hg
    clear hw hg hc hcs
    go_wp2_with fail
    refine(atu _ _ _ _ hsn (uh Gv) hr0 (by omega)).mono ?_
    rintro e w1 ⟨r',rfl,hr|⟨h0,h1⟩,hb1⟩
    ·subst hr
     go_wp2
     go_ret
     exact⟨_,rfl,Or.inl rfl,hbl.trans (hb1.mono hbl.size)⟩
    ·go_wp2
     go_roundg (xs.length-(k+1))
     case measure=>have:=uh HG;omega
     case rel=>exact⟨k+1,r',by omega,rfl,by go_num,rfl,h0,by rw[uh HW];omega,hbl.trans (hb1.mono hbl.size)⟩
   ·go_wp2
    go_ret
    have e:k=xs.length:=by omega
    subst e
    exact⟨_,rfl,Or.inr ⟨hr0,by rw[←Tq];omega⟩,hbl⟩
set_option maxHeartbeats 400000 in
theorem ajs (xs:List ByteArray) (v:Value) (left:Int) (w:World) (hv:bf 1 16 Cc 0 w v xs) (hl:0<=left) (hl2:left<=1048576) :
  Calls Tryz.prog 90 #[v,.int .i64 left] w (Jc w left (Bc afh xs)):=by
 obtain⟨a,cap,rfl,_,hn,hx⟩:=hv
 unfold Len at hn
 have HX:=hide hx
 clear hx
 by_cases h:left-xs.length<0
 ·go_enter Tryz.func90,Tryz.ntmps90
  go_wp2
  go_ret
  exact⟨_,rfl,Or.inl rfl,Below.refl _ _⟩
 ·go_enter Tryz.func90,Tryz.ntmps90
  go_wp2
  go_loopg [1,5] xs.length (fun g l i wr=>∃(k:Nat) (r:Int),k<=xs.length∧g=xs.length-k∧i=.int .i64 k∧l=.int .i64 r∧0<=r∧r<=left-xs.length-uf afh xs k∧Below w.heap.size w wr)
  case atStart=>exact⟨0,left-xs.length,Nat.zero_le _,by omega,rfl,rfl,by omega,by rw[D8];omega,Below.refl _ _⟩
  case round =>
   obtain⟨k,r,hk,hg,rfl,rfl,hr0,hr1,hbl⟩:=hrel
   by_cases hlt:k<xs.length
   ·obtain⟨b,o,cs,rfl,_,hb,hcs,hc,hR⟩:=uh HX k hlt
    have hc:∀j (hj:j<cs.length),wr.cell? ⟨b,o+k*1+j,none⟩=some cs[j]:=fun j hj=>by rw[hbl.cell (p:=⟨b,_,none⟩) hb];exact hc j hj
    obtain⟨rfl,hsn⟩:=hR
    have c0:=hc 0 (by simp)
    simp only[Nat.mul_one,Nat.add_zero,List.getElem_cons_zero,List.getElem_cons_succ] at c0
    have hw:=Dk afh xs k hlt
    have hwe:afh xs[k]=xs[k].size:=rfl
    rw[hwe] at hw
    have HW:=hide hw
    have HG:=hide hg
    clear hw hg hc hcs hwe
    unfold Len at hsn
    generalize xs[k]=s at *
    by_cases hneg:r-s.size<0
    ·go_wp2
     go_ret
     exact⟨_,rfl,Or.inl rfl,hbl⟩
    ·go_wp2
     go_roundg (xs.length-(k+1))
     case measure=>have:=uh HG;omega
     case rel=>exact⟨k+1,_,by omega,rfl,by go_num,rfl,by omega,by rw[uh HW];omega,hbl⟩
   ·go_wp2
    go_ret
    have e:k=xs.length:=by omega
    subst e
    exact⟨_,rfl,Or.inr ⟨hr0,by rw[←Tq];omega⟩,hbl⟩
set_option maxHeartbeats 400000 in
theorem ale (xs:List (List eu)) (v:Value) (left:Int) (w:World) (hv:bf 1 24 yu 0 w v xs) (hl:0<=left) (hl2:left<=1048576) :
  Calls Tryz.prog 92 #[v,.int .i64 left] w (Jc w left (Bc (Bc Pe) xs)):=by
 obtain⟨a,cap,rfl,_,hn,hx⟩:=hv
 unfold Len at hn
 have HX:=hide hx
 clear hx
 by_cases h:left-xs.length<0
 ·go_enter Tryz.func92,Tryz.ntmps92
  go_wp2
  go_ret
  exact⟨_,rfl,Or.inl rfl,Below.refl _ _⟩
 ·go_enter Tryz.func92,Tryz.ntmps92
  go_wp2
  go_loopg [1,5] xs.length (fun g l i wr=>∃(k:Nat) (r:Int),k<=xs.length∧g=xs.length-k∧i=.int .i64 k∧l=.int .i64 r∧0<=r∧r<=left-xs.length-uf (Bc Pe) xs k∧Below w.heap.size w wr)
  case atStart=>exact⟨0,left-xs.length,Nat.zero_le _,by omega,rfl,rfl,by omega,by rw[D8];omega,Below.refl _ _⟩
  case round =>
   obtain⟨k,r,hk,hg,rfl,rfl,hr0,hr1,hbl⟩:=hrel
   by_cases hlt:k<xs.length
   ·obtain⟨b,o,cs,rfl,_,hb,hcs,hc,hR⟩:=uh HX k hlt
    have hR:=lq.stays _ _ _ _ _ hbl hR
    have hc:∀j (hj:j<cs.length),wr.cell? ⟨b,o+k*1+j,none⟩=some cs[j]:=fun j hj=>by rw[hbl.cell (p:=⟨b,_,none⟩) hb];exact hc j hj
    obtain⟨vl,rfl,hcl⟩:=hR
    have Gv:=hide hcl
    clear hcl
    have c0:=hc 0 (by simp)
    simp only[Nat.mul_one,Nat.add_zero,List.getElem_cons_zero,List.getElem_cons_succ] at c0
    have hw:=Dk (Bc Pe) xs k hlt
    have HW:=hide hw
    have HG:=hide hg
    clear hw hg hc hcs
    go_wp2_with fail
    refine(aed _ _ _ _ (uh Gv) hr0 (by omega)).mono ?_
    rintro e w1 ⟨r',rfl,hr|⟨h0,h1⟩,hb1⟩
    ·subst hr
     go_wp2
     go_ret
     exact⟨_,rfl,Or.inl rfl,hbl.trans (hb1.mono hbl.size)⟩
    ·go_wp2
     go_roundg (xs.length-(k+1))
     case measure=>have:=uh HG;omega
     case rel=>exact⟨k+1,r',by omega,rfl,by go_num,rfl,h0,by rw[uh HW];omega,hbl.trans (hb1.mono hbl.size)⟩
   ·go_wp2
    go_ret
    have e:k=xs.length:=by omega
    subst e
    exact⟨_,rfl,Or.inr ⟨hr0,by rw[←Tq];omega⟩,hbl⟩
set_option maxHeartbeats 400000 in
theorem ag2 (q:qg) (l c a:Value) (left:Int) (w:World) (hs:Len q.call.size) (h1:bf 1 16 Cc 0 w l q.lhs) (h2:bf 3 32 jw 0 w c q.code) (h3:bf 1 24 yu 0 w a q.args) (hl:0<=left) (hl2:left<=1048576) :
  Calls Tryz.prog 61 #[.agg #[l,c,.string q.call,a],.int .i64 left] w (Jc w left (wEq q)):=by
 obtain⟨lhs,code,s,args⟩:=q
 unfold Len at hs
 simp only at hs h1 h2 h3
 have H1:=hide h1
 have H2:=hide h2
 have H3:=hide h3
 clear h1 h2 h3
 go_enter Tryz.func61,Tryz.ntmps61
 go_wp2_with fail
 refine(ajs lhs _ _ _ ?_ ?_ ?_).mono ?_
 ·exact(uh H1).stays uw ((Below.refl _ _).alloc (Nat.le_refl _) _)
 ·omega
 ·omega
 rintro e w1 ⟨r1,rfl,hr|⟨h0,h1⟩,hb1⟩
 ·subst hr
  go_wp2
  go_ret
  exact⟨_,rfl,Or.inl rfl,((Below.refl _ _).alloc (Nat.le_refl _) _).trans (hb1.mono (by simp))⟩
 obtain⟨hc1,hf1⟩:=pq hb1
 have B1:Below w.heap.size w w1:=((Below.refl _ _).alloc (Nat.le_refl _) _).trans (hb1.mono (by simp))
 have hz1:w.heap.size<w1.heap.size:=by have:=hb1.size;simp at this;omega
 have HB1:=hide hb1
 clear hb1
 go_wp2_with fail
 refine(aed code _ _ _ ?_ ?_ ?_).mono ?_
 ·exact(uh H2).stays je B1
 ·omega
 ·omega
 rintro e w2 ⟨r2,rfl,hr|⟨h2,h3⟩,hb2⟩
 ·subst hr
  go_wp2
  go_ret
  exact⟨_,rfl,Or.inl rfl,B1.trans (hb2.mono B1.size)⟩
 obtain⟨hc2,hf2⟩:=pq hb2
 have B2:Below w.heap.size w w2:=B1.trans (hb2.mono B1.size)
 have hz2:w.heap.size<w2.heap.size:=by have:=hb2.size;omega
 clear hb2
 by_cases hneg:r2-s.size<0
 ·go_wp2
  go_ret
  exact⟨_,rfl,Or.inl rfl,B2⟩
 go_wp2_with fail
 refine(ale args _ _ _ ?_ ?_ ?_).mono ?_
 ·exact(uh H3).stays lq B2
 ·omega
 ·omega
 rintro e w3 ⟨r3,rfl,hr|⟨h4,h5⟩,hb3⟩
 ·subst hr
  go_wp2
  go_ret
  exact⟨_,rfl,Or.inl rfl,B2.trans (hb3.mono B2.size)⟩
 ·go_wp2
  go_ret
  exact⟨_,rfl,Or.inr ⟨h4,by simp only[wEq];omega⟩,B2.trans (hb3.mono B2.size)⟩
set_option maxHeartbeats 400000 in
theorem afi (xs:List qg) (v:Value) (left:Int) (w:World) (hv:bf 4 88 Dt 0 w v xs) (hl:0<=left) (hl2:left<=1048576) :
  Calls Tryz.prog 36 #[v,.int .i64 left] w (Jc w left (Bc wEq xs)):=by
 obtain⟨a,cap,rfl,_,hn,hx⟩:=hv
 unfold Len at hn
 have HX:=hide hx
 clear hx
 by_cases h:left-xs.length<0
 ·go_enter Tryz.func36,Tryz.ntmps36
  go_wp2
  go_ret
  exact⟨_,rfl,Or.inl rfl,Below.refl _ _⟩
 ·go_enter Tryz.func36,Tryz.ntmps36
  go_wp2
  go_loopg [1,5] xs.length (fun g l i wr=>∃(k:Nat) (r:Int),k<=xs.length∧g=xs.length-k∧i=.int .i64 k∧l=.int .i64 r∧0<=r∧r<=left-xs.length-uf wEq xs k∧Below w.heap.size w wr)
  case atStart=>exact⟨0,left-xs.length,Nat.zero_le _,by omega,rfl,rfl,by omega,by rw[D8];omega,Below.refl _ _⟩
  case round =>
   obtain⟨k,r,hk,hg,rfl,rfl,hr0,hr1,hbl⟩:=hrel
   by_cases hlt:k<xs.length
   ·obtain⟨b,o,cs,rfl,_,hb,hcs,hc,hR⟩:=uh HX k hlt
    have hR:=xq.stays _ _ _ _ _ hbl hR
    have hc:∀j (hj:j<cs.length),wr.cell? ⟨b,o+k*4+j,none⟩=some cs[j]:=fun j hj=>by rw[hbl.cell (p:=⟨b,_,none⟩) hb];exact hc j hj
    obtain⟨l,c,aa,rfl,hsn,g1,g2,g3⟩:=hR
    have G1:=hide g1
    have G2:=hide g2
    have G3:=hide g3
    clear g1 g2 g3
    have c0:=hc 0 (by simp)
    have c1:=hc 1 (by simp)
    have c2:=hc 2 (by simp)
    have c3:=hc 3 (by simp)
    simp only[Nat.mul_one,Nat.add_zero,List.getElem_cons_zero,List.getElem_cons_succ] at c0 c1 c2 c3
    have hw:=Dk wEq xs k hlt
    have HW:=hide hw
    have HG:=hide hg
    clear hw hg hc hcs
    go_wp2_with fail
    refine(ag2 _ _ _ _ _ _ hsn (uh G1) (uh G2) (uh G3) hr0 (by omega)).mono ?_
    rintro e w1 ⟨r',rfl,hr|⟨h0,h1⟩,hb1⟩
    ·subst hr
     go_wp2
     go_ret
     exact⟨_,rfl,Or.inl rfl,hbl.trans (hb1.mono hbl.size)⟩
    ·go_wp2
     go_roundg (xs.length-(k+1))
     case measure=>have:=uh HG;omega
     case rel=>exact⟨k+1,r',by omega,rfl,by go_num,rfl,h0,by rw[uh HW];omega,hbl.trans (hb1.mono hbl.size)⟩
   ·go_wp2
    go_ret
    have e:k=xs.length:=by omega
    subst e
    exact⟨_,rfl,Or.inr ⟨hr0,by rw[←Tq];omega⟩,hbl⟩
set_option maxHeartbeats 1000000 in
theorem aqf (q:ay) (i o v x:Value) (left:Int) (w:World) (hs:Len q.name.size) (h1:bf 3 48 RVar 0 w i q.ins) (h2:bf 3 48 RVar 0 w o q.outs) (h3:bf 3 48 RVar 0 w v q.vars) (h4:bf 4 88 Dt 0 w x q.eqs) (hl:0<=left) (hl2:left<=1048576) :
  Calls Tryz.prog 22 #[.agg #[.string q.name,i,o,v,x],.int .i64 left] w (Jc w left (Pg q)):=by
 obtain⟨s,ins,outs,vars,eqs⟩:=q
 unfold Len at hs
 simp only at hs h1 h2 h3 h4
 have H1:=hide h1
 have H2:=hide h2
 have H3:=hide h3
 have H4:=hide h4
 clear h1 h2 h3 h4
 by_cases hneg:left-s.size<0
 ·go_enter Tryz.func22,Tryz.ntmps22
  go_wp2
  go_ret
  exact⟨_,rfl,Or.inl rfl,(Below.refl _ _).alloc (Nat.le_refl _) _⟩
 go_enter Tryz.func22,Tryz.ntmps22
 go_wp2_with fail
 refine(aaw ins _ _ _ ?_ ?_ ?_).mono ?_
 ·exact(uh H1).stays ji ((Below.refl _ _).alloc (Nat.le_refl _) _)
 ·omega
 ·omega
 rintro e w1 ⟨r1,rfl,hr|⟨p1,q1⟩,hb1⟩
 ·subst hr
  go_wp2
  go_ret
  exact⟨_,rfl,Or.inl rfl,((Below.refl _ _).alloc (Nat.le_refl _) _).trans (hb1.mono (by simp))⟩
 obtain⟨hc1,hf1⟩:=pq hb1
 have B1:Below w.heap.size w w1:=((Below.refl _ _).alloc (Nat.le_refl _) _).trans (hb1.mono (by simp))
 have hz1:w.heap.size<w1.heap.size:=by have:=hb1.size;simp at this;omega
 clear hb1
 go_wp2_with fail
 refine(aaw outs _ _ _ ?_ ?_ ?_).mono ?_
 ·exact(uh H2).stays ji B1
 ·omega
 ·omega
 rintro e w2 ⟨r2,rfl,hr|⟨p2,q2⟩,hb2⟩
 ·subst hr
  go_wp2
  go_ret
  exact⟨_,rfl,Or.inl rfl,B1.trans (hb2.mono B1.size)⟩
 obtain⟨hc2,hf2⟩:=pq hb2
 have B2:Below w.heap.size w w2:=B1.trans (hb2.mono B1.size)
 have hz2:w.heap.size<w2.heap.size:=by have:=hb2.size;omega
 clear hb2
 go_wp2_with fail
 refine(aaw vars _ _ _ ?_ ?_ ?_).mono ?_
 ·exact(uh H3).stays ji B2
 ·omega
 ·omega
 rintro e w3 ⟨r3,rfl,hr|⟨p3,q3⟩,hb3⟩
 ·subst hr
  go_wp2
  go_ret
  exact⟨_,rfl,Or.inl rfl,B2.trans (hb3.mono B2.size)⟩
 obtain⟨hc3,hf3⟩:=pq hb3
 have B3:Below w.heap.size w w3:=B2.trans (hb3.mono B2.size)
 have hz3:w.heap.size<w3.heap.size:=by have:=hb3.size;omega
 clear hb3
 go_wp2_with fail
 refine(afi eqs _ _ _ ?_ ?_ ?_).mono ?_
 ·exact(uh H4).stays xq B3
 ·omega
 ·omega
 rintro e w4 ⟨r4,rfl,hr|⟨p4,q4⟩,hb4⟩
 ·subst hr
  go_wp2
  go_ret
  exact⟨_,rfl,Or.inl rfl,B3.trans (hb4.mono B3.size)⟩
 go_wp2
 go_ret
 exact⟨_,rfl,Or.inr ⟨p4,by simp only[Pg];omega⟩,B3.trans (hb4.mono B3.size)⟩
set_option maxHeartbeats 400000 in
theorem aof (xs:List ay) (v:Value) (left:Int) (w:World) (hv:bf 5 112 o7 0 w v xs) (hl:0<=left) (hl2:left<=1048576) :
  Calls Tryz.prog 13 #[v,.int .i64 left] w (Jc w left (Bc Pg xs)):=by
 obtain⟨a,cap,rfl,_,hn,hx⟩:=hv
 unfold Len at hn
 have HX:=hide hx
 clear hx
 by_cases h:left-xs.length<0
 ·go_enter Tryz.func13,Tryz.ntmps13
  go_wp2
  go_ret
  exact⟨_,rfl,Or.inl rfl,Below.refl _ _⟩
 ·go_enter Tryz.func13,Tryz.ntmps13
  go_wp2
  go_loopg [1,5] xs.length (fun g l i wr=>∃(k:Nat) (r:Int),k<=xs.length∧g=xs.length-k∧i=.int .i64 k∧l=.int .i64 r∧0<=r∧r<=left-xs.length-uf Pg xs k∧Below w.heap.size w wr)
  case atStart=>exact⟨0,left-xs.length,Nat.zero_le _,by omega,rfl,rfl,by omega,by rw[D8];omega,Below.refl _ _⟩
  case round =>
   obtain⟨k,r,hk,hg,rfl,rfl,hr0,hr1,hbl⟩:=hrel
   by_cases hlt:k<xs.length
   ·obtain⟨b,o,cs,rfl,_,hb,hcs,hc,hR⟩:=uh HX k hlt
    have hR:=jk.stays _ _ _ _ _ hbl hR
    have hc:∀j (hj:j<cs.length),wr.cell? ⟨b,o+k*5+j,none⟩=some cs[j]:=fun j hj=>by rw[hbl.cell (p:=⟨b,_,none⟩) hb];exact hc j hj
    obtain⟨ni,no,nv,ne,rfl,hsn,g1,g2,g3,g4⟩:=hR
    have G1:=hide g1
    have G2:=hide g2
    have G3:=hide g3
    have G4:=hide g4
    clear g1 g2 g3 g4
    have c0:=hc 0 (by simp)
    have c1:=hc 1 (by simp)
    have c2:=hc 2 (by simp)
    have c3:=hc 3 (by simp)
    have c4:=hc 4 (by simp)
    simp only[Nat.mul_one,Nat.add_zero,List.getElem_cons_zero,List.getElem_cons_succ] at c0 c1 c2 c3 c4
    have hw:=Dk Pg xs k hlt
    have HW:=hide hw
    have HG:=hide hg
    clear hw hg hc hcs
    go_wp2_with fail
    refine(aqf _ _ _ _ _ _ _ hsn (uh G1) (uh G2) (uh G3) (uh G4) hr0 (by omega)).mono ?_
    rintro e w1 ⟨r',rfl,hr|⟨h0,h1⟩,hb1⟩
    ·subst hr
     go_wp2
     go_ret
     exact⟨_,rfl,Or.inl rfl,hbl.trans (hb1.mono hbl.size)⟩
    ·go_wp2
     go_roundg (xs.length-(k+1))
     case measure=>have:=uh HG;omega
     case rel=>exact⟨k+1,r',by omega,rfl,by go_num,rfl,h0,by rw[uh HW];omega,hbl.trans (hb1.mono hbl.size)⟩
   ·go_wp2
    go_ret
    have e:k=xs.length:=by omega
    subst e
    exact⟨_,rfl,Or.inr ⟨hr0,by rw[←Tq];omega⟩,hbl⟩
set_option maxHeartbeats 400000 in
theorem ajt (ns:List ay) (v:Value) (left:Int) (w:World) (h1:bf 5 112 o7 0 w v ns) (hl:0<=left) (hl2:left<=1048576) :
  Calls Tryz.prog 4 #[.agg #[v],.int .i64 left] w (Jc w left (Bc Pg ns)):=by
 have H1:=hide h1
 clear h1
 go_enter Tryz.func4,Tryz.ntmps4
 go_wp2_with fail
 refine(aof ns _ _ _ ?_ ?_ ?_).mono ?_
 ·exact(uh H1).stays jk ((Below.refl _ _).alloc (Nat.le_refl _) _)
 ·omega
 ·omega
 rintro e w1 ⟨r1,rfl,hr|⟨p1,q1⟩,hb1⟩
 ·subst hr
  go_wp2
  go_ret
  exact⟨_,rfl,Or.inl rfl,((Below.refl _ _).alloc (Nat.le_refl _) _).trans (hb1.mono (by simp))⟩
 ·go_wp2
  go_ret
  exact⟨_,rfl,Or.inr ⟨p1,by omega⟩,((Below.refl _ _).alloc (Nat.le_refl _) _).trans (hb1.mono (by simp))⟩
end Go.Proofs.YtflcnhfakcgkeaaGreat
