import Derived.WalkKit
import Derived.WalkSpells
import Derived.Deep.OwnRows
import Derived.Test.YtlcgnbcgmljpaaaGreatProg
import Derived.WalkLawsBesides
import Derived.Deep.LoopGhost
namespace Go.Proofs.YtlcgnbcgmljpaaaGreat
open Go.RowKit
theorem hide {p:Prop} (h:p):Hid p:=h
theorem uh {p:Prop} (h:Hid p):p:=h
structure iw where
 op:Int
 val:Int
 name:ByteArray
def I64 (x:Int):Prop:=-9223372036854775808<=x∧x<=9223372036854775807
def Len (n:Nat):Prop:=n<=140737488355328
def Kept (lo hi:Nat) (w w':World):Prop:=w.heap.size<=w'.heap.size∧∀k,lo<=k->k<hi->w'.heap[k]?=w.heap[k]?
theorem Kept.of_below {lo B:Nat} {w w':World} (h:Below B w w'):Kept lo B w w':=⟨h.size,fun k _ hk=>h.block k hk⟩
theorem Kept.cell {lo hi:Nat} {w w':World} (h:Kept lo hi w w') {p:Addr} (h1:lo<=p.block) (h2:p.block<hi):w'.cell? p=w.cell? p:=World.cell?_of_block (w:=w) (h.2 p.block h1 h2)
theorem Kept.refl (lo hi:Nat) (w:World):Kept lo hi w w:=⟨Nat.le_refl _,fun _ _ _=>rfl⟩
theorem Kept.trans {lo hi hi':Nat} {w w' w'':World} (h:Kept lo hi w w') (k:Kept lo hi' w' w'') (hh:hi<=hi'):Kept lo hi w w'' :=
 ⟨Nat.le_trans h.1 k.1,fun i h1 h2=>(k.2 i h1 (by omega)).trans (h.2 i h1 h2)⟩
theorem Kept.setCell {lo hi:Nat} {w w':World} (h:Kept lo hi w w') {p:Addr} (hp:p.block<lo) (u:Value):Kept lo hi w (w'.setCell p u) :=
 ⟨by simpa[World.setCell] using h.1,fun k h1 h2=>by rw[Below.heap_setCell _ _ _ _ (by omega)];exact h.2 k h1 h2⟩
def bf {α:Type} (sz jh:Nat) (R:Nat->World->List Value->α->Prop) (lo:Nat) (w:World) (v:Value) (xs:List α):Prop :=
 ∃a cap,v=.slice a xs.length cap∧(Len (xs.length*jh)∧xs.length<=cap)∧Len xs.length∧∀i (h:i<xs.length),∃b o cs,a=some ⟨b,o,none⟩∧lo<=b∧b<w.heap.size∧cs.length=sz ∧
  (∀j (hj:j<cs.length),w.cell? ⟨b,o+i*sz+j,none⟩=some cs[j])∧R lo w cs xs[i]
def Fj {α:Type} (R:Nat->World->List Value->α->Prop):Prop:=∀lo w w' cs x,Kept lo w.heap.size w w'->R lo w cs x->R lo w' cs x
def a1t {α:Type} (R:Nat->World->List Value->α->Prop):Prop:=∀lo w w' cs x,Below w.heap.size w w'->R lo w cs x->R lo w' cs x
def Lowers {α:Type} (R:Nat->World->List Value->α->Prop):Prop:=∀lo lo' w cs x,lo'<=lo->R lo w cs x->R lo' w cs x
theorem Fj.stays {α:Type} {R:Nat->World->List Value->α->Prop} (h:Fj R):a1t R:=fun _ _ _ _ _ hb hr=>h _ _ _ _ _ (Kept.of_below hb) hr
theorem bf.kept {α:Type} {sz jh lo:Nat} {R:Nat->World->List Value->α->Prop} (hR:Fj R) {w w':World} {v:Value} {xs:List α} (hb:Kept lo w.heap.size w w') (h:bf sz jh R lo w v xs):bf sz jh R lo w' v xs:=by
 obtain⟨a,cap,rfl,hl,hl2,h⟩:=h
 refine⟨a,cap,rfl,hl,hl2,fun i hi=>?_⟩
 obtain⟨b,o,cs,ha,hlo,hbl,hcs,hc,hr⟩:=h i hi
 exact⟨b,o,cs,ha,hlo,Nat.lt_of_lt_of_le hbl hb.1,hcs,fun j hj=>by rw[hb.cell (p:=⟨b,_,none⟩) hlo hbl];exact hc j hj,hR _ _ _ _ _ hb hr⟩
theorem bf.shape {α:Type} {sz jh lo:Nat} {R:Nat->World->List Value->α->Prop} {w:World} {v:Value} {xs:List α} (h:bf sz jh R lo w v xs):∃a cap,v=.slice a xs.length cap:=by
 obtain⟨a,cap,hv,_⟩:=h
 exact⟨a,cap,hv⟩
theorem bf.stays {α:Type} {sz jh lo:Nat} {R:Nat->World->List Value->α->Prop} (hR:Fj R) {w w':World} {v:Value} {xs:List α} (hb:Below w.heap.size w w') (h:bf sz jh R lo w v xs):bf sz jh R lo w' v xs:=h.kept hR (Kept.of_below hb)
theorem bf.lower {α:Type} {sz jh lo lo':Nat} {R:Nat->World->List Value->α->Prop} (hR:Lowers R) {w:World} {v:Value} {xs:List α} (hl:lo'<=lo) (h:bf sz jh R lo w v xs):bf sz jh R lo' w v xs:=by
 obtain⟨a,cap,rfl,hl1,hl2,h⟩:=h
 refine⟨a,cap,rfl,hl1,hl2,fun i hi=>?_⟩
 obtain⟨b,o,cs,ha,hlo,hbl,hcs,hc,hr⟩:=h i hi
 exact⟨b,o,cs,ha,Nat.le_trans hl hlo,hbl,hcs,hc,hR _ _ _ _ _ hl hr⟩
def uz (_:Nat) (_:World) (cs:List Value) (s:ByteArray):Prop:=cs=[.string s]∧Len s.size
def tu (_:Nat) (_:World) (cs:List Value) (t:iw):Prop:=cs=[.int .i64 t.op,.int .i64 t.val,.string t.name]∧Len t.name.size∧I64 t.op∧I64 t.val
def vw (lo:Nat) (w:World) (cs:List Value) (l:List iw):Prop:=∃v,cs=[v]∧bf 3 32 tu lo w v l
def yu (_:Nat) (_:World) (cs:List Value) (x:Int):Prop:=cs=[.int .i64 x]∧I64 x
theorem jy:Fj yu:=fun _ _ _ _ _ _ h=>h
theorem He:Lowers yu:=fun _ _ _ _ _ _ h=>h
theorem lu:Fj uz:=fun _ _ _ _ _ _ h=>h
theorem og:Fj tu:=fun _ _ _ _ _ _ h=>h
theorem xq:Fj vw:=fun _ _ _ _ _ hb ⟨v,h1,h2⟩=>⟨v,h1,h2.kept og hb⟩
theorem Dq:Lowers uz:=fun _ _ _ _ _ _ h=>h
theorem Ja:Lowers tu:=fun _ _ _ _ _ _ h=>h
theorem J3:Lowers vw:=fun _ _ _ _ _ hb ⟨v,h1,h2⟩=>⟨v,h1,h2.lower Ja hb⟩
def A8 {α:Type} (f:α->Nat) (xs:List α):Nat:=xs.length+(xs.map f).sum
def Oy (t:iw):Nat:=t.name.size
def ada (s:ByteArray):Nat:=s.size
def qo {α:Type} (f:α->Nat) (xs:List α) (k:Nat):Nat:=((xs.take k).map f).sum
theorem En {α:Type} (f:α->Nat) (xs:List α):qo f xs 0=0:=by simp[qo]
theorem Dx {α:Type} (f:α->Nat) (xs:List α) (k:Nat) (h:k<xs.length):qo f xs (k+1)=qo f xs k+f xs[k]:=by
 unfold qo
 rw[List.take_succ_eq_append_getElem h]
 simp only[List.map_append,List.map_cons,List.map_nil,List.sum_append,List.sum_cons,List.sum_nil,Nat.add_zero]
theorem Vx {α:Type} (f:α->Nat) (xs:List α):xs.length+qo f xs xs.length=A8 f xs:=by simp[qo,A8]
theorem Hf {P:Program} (t e:TypeId) (z:Value) (size bytes:Nat) (ht:P.underlying t=some (.slice e)) (hinfo:(P.info? e).map (fun i=>(i.zero,i.size,i.bytes))=some (some z,size,bytes)) (n:Nat) (hb:n*bytes<=140737488355328) (hn:n<=140737488355328) (w:World) :
  (Instr.makeSlice t (.int .i64 (n:Int)) (.int .i64 (n:Int))).run P w=.ok (.slice (some ⟨w.heap.size,0,none⟩) n n) (w.alloc (.cells (madeCells z.cells (n*size)) e)):=by
 obtain⟨i,hi,hzz⟩:=Option.map_eq_some_iff.1 hinfo
 simp only[Prod.mk.injEq] at hzz
 obtain⟨hz,hs,hbt⟩:=hzz
 have hb':(i.bytes:Int)*(n:Int)<=281474976710656:=by
  have h:((i.bytes*n:Nat):Int)<=281474976710656:=by rw[hbt,Nat.mul_comm];omega
  rwa[Int.natCast_mul] at h
 have hr:=run_make (P:=P) w t e i z ht hi hz .i64 .i64 n n (by omega) (Int.le_refl _) hb' (by omega)
 simp only[Int.toNat_natCast,hs] at hr
 exact hr
def zq (w:World) (b:Nat) (n:Nat):Prop:=∃c t,w.heap[b]?=some (.cells c t (0,0))∧c.size=n
theorem zq.lt {w:World} {b n:Nat} (h:zq w b n):b<w.heap.size:=by
 obtain⟨c,t,hb,_⟩:=h
 exact(Array.getElem?_eq_some_iff.1 hb).1
theorem zq.cell {w:World} {b n:Nat} (h:zq w b n) {i:Nat} (hi:i<n):∃u,w.cell? ⟨b,i,none⟩=some u:=by
 obtain⟨c,t,hb,hn⟩:=h
 exact⟨c[i],by simp[World.cell?,hb,hn,hi]⟩
theorem zq.frozen {w:World} {b n:Nat} (h:zq w b n) (i:Nat):w.frozen? ⟨b,i,none⟩=false:=by
 obtain⟨c,t,hb,_⟩:=h
 simp[World.frozen?,hb]
theorem zq.below {w w':World} {b n:Nat} (h:zq w b n) (hb:Below w.heap.size w w'):zq w' b n:=by
 have hlt:=h.lt
 obtain⟨c,t,hc,hn⟩:=h
 exact⟨c,t,(hb.block b hlt).trans hc,hn⟩
theorem zq.set {w:World} {b n:Nat} (h:zq w b n) (i:Nat) (u:Value):zq (w.setCell ⟨b,i,none⟩ u) b n:=by
 obtain⟨c,t,hc,hn⟩:=h
 exact⟨c.setIfInBounds i u,t,by simp[World.setCell,Array.getElem?_modify,hc],by simpa using hn⟩
theorem zq.made (w:World) (cs:Array Value) (n:Nat) (t:TypeId):zq (w.alloc (.cells (madeCells cs n) t)) w.heap.size n :=
 ⟨_,t,Deep.blk_alloc_new _ _,size_madeCells _ _⟩
def Jb {α:Type} (sz:Nat) (R:Nat->World->List Value->α->Prop) (lo:Nat) (w:World) (b:Nat) (xs:List α) (k:Nat):Prop :=
 ∀i (h:i<xs.length),i<k->∃cs,cs.length=sz∧(∀j (hj:j<cs.length),w.cell? ⟨b,i*sz+j,none⟩=some cs[j])∧R lo w cs xs[i]
theorem Bo {W w1:World} (hb:Below W.heap.size W w1):(∀b o,b<W.heap.size->w1.cell? ⟨b,o,none⟩=W.cell? ⟨b,o,none⟩)∧(∀b o,b<W.heap.size->w1.frozen? ⟨b,o,none⟩=W.frozen? ⟨b,o,none⟩) :=
 ⟨fun b o h=>hb.cell (p:=⟨b,o,none⟩) h,fun b o h=>hb.frozen (p:=⟨b,o,none⟩) h⟩
end Go.Proofs.YtlcgnbcgmljpaaaGreat
namespace Go.Proofs.YtlcgnbcgmljpaaaGreat
open Go.RowKit
set_option linter.unusedSimpArgs false
set_option linter.unusedVariables false
def J4 (w:World) (left:Int) (wt:Nat) (e:Ending) (w':World):Prop :=
 ∃r:Int,e=.returned (.int .i64 r)∧(r = -1∨0<=r∧r+wt<=left)∧Below w.heap.size w w'
theorem apl (t:iw) (left:Int) (w:World) (hs:Len t.name.size) (hl:0<=left) (hl2:left<=1048576) :
  Calls Tryz.prog 120 #[.agg #[.int .i64 t.op,.int .i64 t.val,.string t.name],.int .i64 left] w (J4 w left (Oy t)):=by
 obtain⟨op,val,s⟩:=t
 unfold Len at hs
 simp only at hs
 by_cases h:left-s.size<0
 all_goals
  go_enter Tryz.func120,Tryz.ntmps120
  go_wp2
  go_ret
 ·exact⟨_,rfl,Or.inl rfl,(Below.refl _ _).alloc (Nat.le_refl _) _⟩
 ·exact⟨_,rfl,Or.inr ⟨by omega,by simp only[Oy];omega⟩,(Below.refl _ _).alloc (Nat.le_refl _) _⟩
set_option maxHeartbeats 400000 in
theorem ad5 (xs:List iw) (v:Value) (left:Int) (w:World) (hv:bf 3 32 tu 0 w v xs) (hl:0<=left) (hl2:left<=1048576) :
  Calls Tryz.prog 95 #[v,.int .i64 left] w (J4 w left (A8 Oy xs)):=by
 obtain⟨a,cap,rfl,_,hn,hx⟩:=hv
 unfold Len at hn
 have HX:=hide hx
 clear hx
 by_cases h:left-xs.length<0
 ·go_enter Tryz.func95,Tryz.ntmps95
  go_wp2
  go_ret
  exact⟨_,rfl,Or.inl rfl,Below.refl _ _⟩
 ·go_enter Tryz.func95,Tryz.ntmps95
  go_wp2
  go_loopg [1,5] xs.length (fun g l i wr=>∃(k:Nat) (r:Int),k<=xs.length∧g=xs.length-k∧i=.int .i64 k∧l=.int .i64 r∧0<=r∧r<=left-xs.length-qo Oy xs k∧Below w.heap.size w wr)
  case atStart=>exact⟨0,left-xs.length,Nat.zero_le _,by omega,rfl,rfl,by omega,by rw[En];omega,Below.refl _ _⟩
  case round =>
   obtain⟨k,r,hk,hg,rfl,rfl,hr0,hr1,hbl⟩:=hrel
   by_cases hlt:k<xs.length
   ·obtain⟨b,o,cs,rfl,_,hb,hcs,hc,hR⟩:=uh HX k hlt
    have hR:=og.stays _ _ _ _ _ hbl hR
    have hc:∀j (hj:j<cs.length),wr.cell? ⟨b,o+k*3+j,none⟩=some cs[j]:=fun j hj=>by rw[hbl.cell (p:=⟨b,_,none⟩) hb];exact hc j hj
    obtain⟨rfl,hsn,ho,hvl⟩:=hR
    have c0:=hc 0 (by simp)
    have c1:=hc 1 (by simp)
    have c2:=hc 2 (by simp)
    simp only[Nat.mul_one,Nat.add_zero,List.getElem_cons_zero,List.getElem_cons_succ] at c0 c1 c2
    have hw:=Dx Oy xs k hlt
    have HW:=hide hw
    have HG:=hide hg
    clear hw hg hc hcs
    go_wp2_with fail
    refine(apl _ _ _ hsn hr0 (by omega)).mono ?_
    rintro e w1 ⟨r',rfl,hr|⟨h0,h1⟩,hb1⟩
    ·subst hr
     go_wp2
     go_ret
     exact⟨_,rfl,Or.inl rfl,hbl.trans (hb1.mono hbl.size)⟩
    ·go_wp2
     go_roundg (xs.length-(k+1))
     case measure=>have:=uh HG;omega
     case rel=>exact⟨k+1,r',by omega,rfl,by go_num,rfl,h0,by rw[uh HW];omega,hbl.trans (hb1.mono hbl.size)⟩
   ·go_wp2
    go_ret
    have e:k=xs.length:=by omega
    subst e
    exact⟨_,rfl,Or.inr ⟨hr0,by rw[←Vx];omega⟩,hbl⟩
set_option maxHeartbeats 400000 in
theorem aaz (xs:List ByteArray) (v:Value) (left:Int) (w:World) (hv:bf 1 16 uz 0 w v xs) (hl:0<=left) (hl2:left<=1048576) :
  Calls Tryz.prog 43 #[v,.int .i64 left] w (J4 w left (A8 ada xs)):=by
 obtain⟨a,cap,rfl,_,hn,hx⟩:=hv
 unfold Len at hn
 have HX:=hide hx
 clear hx
 by_cases h:left-xs.length<0
 ·go_enter Tryz.func43,Tryz.ntmps43
  go_wp2
  go_ret
  exact⟨_,rfl,Or.inl rfl,Below.refl _ _⟩
 ·go_enter Tryz.func43,Tryz.ntmps43
  go_wp2
  go_loopg [1,5] xs.length (fun g l i wr=>∃(k:Nat) (r:Int),k<=xs.length∧g=xs.length-k∧i=.int .i64 k∧l=.int .i64 r∧0<=r∧r<=left-xs.length-qo ada xs k∧Below w.heap.size w wr)
  case atStart=>exact⟨0,left-xs.length,Nat.zero_le _,by omega,rfl,rfl,by omega,by rw[En];omega,Below.refl _ _⟩
  case round =>
   obtain⟨k,r,hk,hg,rfl,rfl,hr0,hr1,hbl⟩:=hrel
   by_cases hlt:k<xs.length
   ·obtain⟨b,o,cs,rfl,_,hb,hcs,hc,hR⟩:=uh HX k hlt
    have hc:∀j (hj:j<cs.length),wr.cell? ⟨b,o+k*1+j,none⟩=some cs[j]:=fun j hj=>by rw[hbl.cell (p:=⟨b,_,none⟩) hb];exact hc j hj
    obtain⟨rfl,hsn⟩:=hR
    have c0:=hc 0 (by simp)
    simp only[Nat.mul_one,Nat.add_zero,List.getElem_cons_zero,List.getElem_cons_succ] at c0
    have hw:=Dx ada xs k hlt
    have hwe:ada xs[k]=xs[k].size:=rfl
    rw[hwe] at hw
    have HW:=hide hw
    have HG:=hide hg
    clear hw hg hc hcs hwe
    unfold Len at hsn
    generalize xs[k]=s at *
    by_cases hneg:r-s.size<0
    ·go_wp2
     go_ret
     exact⟨_,rfl,Or.inl rfl,hbl⟩
    ·go_wp2
     go_roundg (xs.length-(k+1))
     case measure=>have:=uh HG;omega
     case rel=>exact⟨k+1,_,by omega,rfl,by go_num,rfl,by omega,by rw[uh HW];omega,hbl⟩
   ·go_wp2
    go_ret
    have e:k=xs.length:=by omega
    subst e
    exact⟨_,rfl,Or.inr ⟨hr0,by rw[←Vx];omega⟩,hbl⟩
set_option maxHeartbeats 400000 in
theorem akm (xs:List (List iw)) (v:Value) (left:Int) (w:World) (hv:bf 1 24 vw 0 w v xs) (hl:0<=left) (hl2:left<=1048576) :
  Calls Tryz.prog 96 #[v,.int .i64 left] w (J4 w left (A8 (A8 Oy) xs)):=by
 obtain⟨a,cap,rfl,_,hn,hx⟩:=hv
 unfold Len at hn
 have HX:=hide hx
 clear hx
 by_cases h:left-xs.length<0
 ·go_enter Tryz.func96,Tryz.ntmps96
  go_wp2
  go_ret
  exact⟨_,rfl,Or.inl rfl,Below.refl _ _⟩
 ·go_enter Tryz.func96,Tryz.ntmps96
  go_wp2
  go_loopg [1,5] xs.length (fun g l i wr=>∃(k:Nat) (r:Int),k<=xs.length∧g=xs.length-k∧i=.int .i64 k∧l=.int .i64 r∧0<=r∧r<=left-xs.length-qo (A8 Oy) xs k∧Below w.heap.size w wr)
  case atStart=>exact⟨0,left-xs.length,Nat.zero_le _,by omega,rfl,rfl,by omega,by rw[En];omega,Below.refl _ _⟩
  case round =>
   obtain⟨k,r,hk,hg,rfl,rfl,hr0,hr1,hbl⟩:=hrel
   by_cases hlt:k<xs.length
   ·obtain⟨b,o,cs,rfl,_,hb,hcs,hc,hR⟩:=uh HX k hlt
    have hR:=xq.stays _ _ _ _ _ hbl hR
    have hc:∀j (hj:j<cs.length),wr.cell? ⟨b,o+k*1+j,none⟩=some cs[j]:=fun j hj=>by rw[hbl.cell (p:=⟨b,_,none⟩) hb];exact hc j hj
    obtain⟨vl,rfl,hcl⟩:=hR
    have Oi:=hide hcl
    clear hcl
    have c0:=hc 0 (by simp)
    simp only[Nat.mul_one,Nat.add_zero,List.getElem_cons_zero,List.getElem_cons_succ] at c0
    have hw:=Dx (A8 Oy) xs k hlt
    have HW:=hide hw
    have HG:=hide hg
    clear hw hg hc hcs
    go_wp2_with fail
    refine(ad5 _ _ _ _ (uh Oi) hr0 (by omega)).mono ?_
    rintro e w1 ⟨r',rfl,hr|⟨h0,h1⟩,hb1⟩
    ·subst hr
     go_wp2
     go_ret
     exact⟨_,rfl,Or.inl rfl,hbl.trans (hb1.mono hbl.size)⟩
    ·go_wp2
     go_roundg (xs.length-(k+1))
     case measure=>have:=uh HG;omega
     case rel=>exact⟨k+1,r',by omega,rfl,by go_num,rfl,h0,by rw[uh HW];omega,hbl.trans (hb1.mono hbl.size)⟩
   ·go_wp2
    go_ret
    have e:k=xs.length:=by omega
    subst e
    exact⟨_,rfl,Or.inr ⟨hr0,by rw[←Vx];omega⟩,hbl⟩
end Go.Proofs.YtlcgnbcgmljpaaaGreat
namespace Go.Proofs.YtlcgnbcgmljpaaaGreat
open Go.RowKit
def putCells (w:World) (b:Nat):Nat->List Value->World
 | _,[]=>w
 | i,c::cs=>(putCells w b (i+1) cs).setCell ⟨b,i,none⟩ c
def Jr (w:World) (b:Nat):Nat->List Value->World
 | _,[]=>w
 | i,c::cs=>Jr (w.setCell ⟨b,i,none⟩ c) b (i+1) cs
theorem apm {w:World} {b n:Nat} (h:zq w b n) (i:Nat) (cs:List Value):zq (Jr w b i cs) b n:=by
 induction cs generalizing w i with
 | nil=>exact h
 | cons c cs ih=>exact ih (h.set i c) (i+1)
theorem yw (w:World) (b i:Nat) (u:Value) (p:Addr) (h:p.block≠b∨p.off≠i):(w.setCell ⟨b,i,none⟩ u).cell? p=w.cell? p:=by
 simp only[World.cell?,World.setCell,Array.getElem?_modify]
 by_cases hb:p.block=b
 ·have hi:p.off≠i:=by rcases h with h|h;exact absurd hb h;exact h
  subst hb
  simp only[if_true]
  cases hh:w.heap[p.block]? with
  | none=>simp
  | some o =>
   cases o with
   | cells c t f =>
    simp[Ne.symm hi]
   | _=>simp
 ·rw[if_neg (fun h=>hb h.symm)]
theorem agj (w:World) (b i:Nat) (cs:List Value) (p:Addr) (h:p.block≠b∨p.off<i∨i+cs.length<=p.off):(Jr w b i cs).cell? p=w.cell? p:=by
 induction cs generalizing w i with
 | nil=>rfl
 | cons c cs ih =>
  simp only[Jr]
  rw[ih _ _ (by simp only[List.length_cons] at h;omega)]
  exact yw _ _ _ _ _ (by simp only[List.length_cons] at h;omega)
theorem ahb {w:World} {b n:Nat} (h:zq w b n) {i:Nat} (hi:i<n) (u:Value):(w.setCell ⟨b,i,none⟩ u).cell? ⟨b,i,none⟩=some u:=by
 obtain⟨c,t,hb,hn⟩:=h
 simp[World.cell?,World.setCell,Array.getElem?_modify,hb,hn,hi]
theorem ar4 {w:World} {b n:Nat} (h:zq w b n) (i:Nat) (cs:List Value) (hl:i+cs.length<=n) (j:Nat) (hj:j<cs.length):(Jr w b i cs).cell? ⟨b,i+j,none⟩=some cs[j]:=by
 induction cs generalizing w i j with
 | nil=>exact absurd hj (Nat.not_lt_zero _)
 | cons c cs ih =>
  simp only[List.length_cons] at hl hj
  simp only[Jr]
  cases j with
  | zero =>
   rw[agj _ _ _ _ _ (Or.inr (Or.inl (by simp)))]
   exact ahb h (by omega) c
  | succ j =>
   have:=ih (h.set i c) (i+1) (by omega) j (by omega)
   rw[show i+(j+1)=i+1+j from by omega]
   simpa using this
theorem ad6 {lo hi:Nat} {w w':World} (h:Kept lo hi w w') {b:Nat} (hb:b<lo) (i:Nat) (cs:List Value):Kept lo hi w (Jr w' b i cs):=by
 induction cs generalizing w' i with
 | nil=>exact h
 | cons c cs ih=>exact ih (h.setCell (p:=⟨b,i,none⟩) hb c) (i+1)
theorem akn {B:Nat} {w w':World} (h:Below B w w') {b:Nat} (hb:B<=b) (i:Nat) (cs:List Value):Below B w (Jr w' b i cs):=by
 induction cs generalizing w' i with
 | nil=>exact h
 | cons c cs ih=>exact ih (h.setCell (p:=⟨b,i,none⟩) hb c) (i+1)
theorem apn {α:Type} {sz:Nat} {R:Nat->World->List Value->α->Prop} (hK:Fj R) (hL:Lowers R) {w wr w1:World} {b:Nat} {xs:List α} {k:Nat} (hlt:k<xs.length) {B:Nat} (hB:B<=b) (hbl:Below B w wr)
  (hrow:zq wr b (xs.length*sz)) (hfil:Jb sz R (b+1) wr b xs k) (hb1:Below wr.heap.size wr w1) {cs:List Value} (hcs:cs.length=sz) (hR:R wr.heap.size w1 cs xs[k]) :
  Below B w (Jr w1 b (k*sz) cs)∧zq (Jr w1 b (k*sz) cs) b (xs.length*sz)∧Jb sz R (b+1) (Jr w1 b (k*sz) cs) b xs (k+1):=by
 have hrow1:=hrow.below hb1
 have hblt:=hrow.lt
 have hB':B<=wr.heap.size:=by omega
 refine⟨akn (hbl.trans (hb1.mono hB')) hB _ _,apm hrow1 _ _,fun i hi hik=>?_⟩
 by_cases e:i=k
 ·subst e
  have hfit:i*sz+cs.length<=xs.length*sz:=by
   rw[hcs]
   have:(i+1)*sz<=xs.length*sz:=Nat.mul_le_mul_right _ hlt
   rw[Nat.add_mul] at this
   omega
  exact⟨cs,hcs,fun j hj=>ar4 hrow1 _ _ hfit j hj,hK _ _ _ _ _ (ad6 (Kept.refl _ _ _) (Nat.lt_succ_self _) _ _) (hL _ _ _ _ _ (by omega) hR)⟩
 ·obtain⟨cs',hcs',hc',hR'⟩:=hfil i hi (by omega)
  refine⟨cs',hcs',fun j hj=>?_,hK _ _ _ _ _ (ad6 (Kept.of_below hb1) (Nat.lt_succ_self _) _ _) hR'⟩
  have hlo:i*sz+j<k*sz:=by
   have:(i+1)*sz<=k*sz:=Nat.mul_le_mul_right _ (by omega)
   rw[Nat.add_mul] at this
   omega
  rw[agj _ _ _ _ _ (Or.inr (Or.inl hlo)),hb1.cell (p:=⟨b,_,none⟩) hblt]
  exact hc' j hj
structure qc (B:Nat) (w w':World):Prop where
 below:Below B w w'
 free:∀k,B<=k->k<w'.heap.size->∃c t,w'.heap[k]?=some (.cells c t (0,0))
theorem qc.refl (w:World):qc w.heap.size w w:=⟨Below.refl _ _,fun k h1 h2=>absurd h2 (by omega)⟩
theorem qc.alloc {B:Nat} {a w:World} (h:qc B a w) (hB:B<=w.heap.size) (c:Array Value) {t:TypeId}:qc B a (w.alloc (.cells c t)):=by
 refine⟨h.below.alloc hB _,fun k h1 h2=>?_⟩
 by_cases e:k<w.heap.size
 ·obtain⟨c1,t1,h3⟩:=h.free k h1 e
  exact⟨c1,t1,(Below.heap_alloc _ _ _ e).trans h3⟩
 ·have e2:k=w.heap.size:=by simp at h2;omega
  subst e2
  exact⟨c,t,by show (w.heap.push _)[w.heap.size]?=_;rw[Array.getElem?_push_size]⟩
theorem qc.setCell {B:Nat} {a w:World} (h:qc B a w) {p:Addr} (hp:B<=p.block) (u:Value):qc B a (w.setCell p u):=by
 refine⟨h.below.setCell hp _,fun k h1 h2=>?_⟩
 have h2':k<w.heap.size:=by simpa[World.setCell] using h2
 obtain⟨c1,t1,h3⟩:=h.free k h1 h2'
 by_cases e:k=p.block
 ·subst e
  refine⟨if p.spot.isSome then c1 else c1.setIfInBounds p.off u,t1,?_⟩
  simp only[World.setCell,Array.getElem?_modify,if_true,h3,Option.map_some]
 ·exact⟨c1,t1,(Below.heap_setCell _ _ _ _ e).trans h3⟩
theorem qc.and {B:Nat} {a b c:World} (h:qc B a b) (k:qc b.heap.size b c) (hB:B<=b.heap.size):qc B a c:=by
 refine⟨h.below.trans (k.below.mono hB),fun i h1 h2=>?_⟩
 by_cases e:i<b.heap.size
 ·obtain⟨c1,t1,h3⟩:=h.free i h1 e
  exact⟨c1,t1,(k.below.block i e).trans h3⟩
 ·exact k.free i (by omega) h2
theorem amk {B:Nat} {w w':World} (h:qc B w w') {b:Nat} (hb:B<=b) (i:Nat) (cs:List Value):qc B w (Jr w' b i cs):=by
 induction cs generalizing w' i with
 | nil=>exact h
 | cons c cs ih=>exact ih (h.setCell (p:=⟨b,i,none⟩) hb c) (i+1)
theorem Js {α:Type} {sz:Nat} {R:Nat->World->List Value->α->Prop} (hK:Fj R) (hL:Lowers R) {w wr w1:World} {b:Nat} {xs:List α} {k:Nat} (hlt:k<xs.length) {B:Nat} (hB:B<=b) (hbl:qc B w wr)
  (hrow:zq wr b (xs.length*sz)) (hfil:Jb sz R (b+1) wr b xs k) (hb1:qc wr.heap.size wr w1) {cs:List Value} (hcs:cs.length=sz) (hR:R wr.heap.size w1 cs xs[k]) :
  qc B w (Jr w1 b (k*sz) cs)∧zq (Jr w1 b (k*sz) cs) b (xs.length*sz)∧Jb sz R (b+1) (Jr w1 b (k*sz) cs) b xs (k+1):=by
 have hblt:=hrow.lt
 have h:=apn hK hL hlt hB hbl.below hrow hfil hb1.below hcs hR
 exact⟨amk (hbl.and hb1 (by omega)) hB _ _,h.2⟩
theorem Lh {α:Type} (sz:Nat) (R:Nat->World->List Value->α->Prop) (lo:Nat) (w:World) (b:Nat) (xs:List α):Jb sz R lo w b xs 0:=fun _ _ h=>absurd h (Nat.not_lt_zero _)
theorem Lj {α:Type} {sz jh:Nat} {R:Nat->World->List Value->α->Prop} (hL:Lowers R) {wr:World} {b:Nat} {xs:List α} (hb:b<wr.heap.size) (h1:Len (xs.length*jh)) (h2:Len xs.length) (hfil:Jb sz R (b+1) wr b xs xs.length) :
  bf sz jh R b wr (.slice (some ⟨b,0,none⟩) xs.length xs.length) xs:=by
 refine⟨_,_,rfl,⟨h1,Nat.le_refl _⟩,h2,fun i hi=>?_⟩
 obtain⟨cs,hcs,hc,hR⟩:=hfil i hi hi
 exact⟨b,0,cs,rfl,Nat.le_refl _,hb,hcs,fun j hj=>by rw[Nat.zero_add];exact hc j hj,hL _ _ _ _ _ (Nat.le_succ _) hR⟩
end Go.Proofs.YtlcgnbcgmljpaaaGreat
namespace Go.Proofs.YtlcgnbcgmljpaaaGreat
open Go.RowKit
structure gy where
 name:ByteArray
 type:Int
structure dh where
 kind:Int
 name:ByteArray
 at_:Int
 outs:List ByteArray
 code:List iw
 args:List (List iw)
structure ak where
 name:ByteArray
 ins:List gy
 outs:List gy
 ay:List ByteArray
 aj:List Int
 insts:List Int
 body:List dh
def xk (_:Nat) (_:World) (cs:List Value) (t:gy):Prop:=cs=[.string t.name,.int .i64 t.type]∧Len t.name.size∧I64 t.type
def Ec (lo:Nat) (w:World) (cs:List Value) (t:dh):Prop:=∃o c a,cs=[.int .i64 t.kind,.string t.name,.int .i64 t.at_,o,c,a]∧Len t.name.size∧I64 t.kind∧I64 t.at_∧bf 1 16 uz lo w o t.outs∧bf 3 32 tu lo w c t.code∧bf 1 24 vw lo w a t.args
def ni (lo:Nat) (w:World) (cs:List Value) (k:ak):Prop:=∃i o l m n b,cs=[.string k.name,i,o,l,m,n,b]∧Len k.name.size∧bf 2 24 xk lo w i k.ins∧bf 2 24 xk lo w o k.outs∧bf 1 16 uz lo w l k.ay∧bf 1 8 yu lo w m k.aj∧bf 1 8 yu lo w n k.insts∧bf 6 104 Ec lo w b k.body
theorem jq:Fj xk:=fun _ _ _ _ _ _ h=>h
theorem Fp:Lowers xk:=fun _ _ _ _ _ _ h=>h
theorem xu:Fj Ec:=fun _ _ _ _ _ hb ⟨o,c,a,h1,h2,h3,h4,h5,h6,h7⟩=>⟨o,c,a,h1,h2,h3,h4,h5.kept lu hb,h6.kept og hb,h7.kept xq hb⟩
theorem Oj:Lowers Ec:=fun _ _ _ _ _ hb ⟨o,c,a,h1,h2,h3,h4,h5,h6,h7⟩=>⟨o,c,a,h1,h2,h3,h4,h5.lower Dq hb,h6.lower Ja hb,h7.lower J3 hb⟩
theorem jm:Fj ni:=fun _ _ _ _ _ hb ⟨i,o,l,m,n,b,h1,h2,h3,h4,h5,h6,h7,h8⟩=>⟨i,o,l,m,n,b,h1,h2,h3.kept jq hb,h4.kept jq hb,h5.kept lu hb,h6.kept jy hb,h7.kept jy hb,h8.kept xu hb⟩
theorem D9:Lowers ni:=fun _ _ _ _ _ hb ⟨i,o,l,m,n,b,h1,h2,h3,h4,h5,h6,h7,h8⟩=>⟨i,o,l,m,n,b,h1,h2,h3.lower Fp hb,h4.lower Fp hb,h5.lower Dq hb,h6.lower He hb,h7.lower He hb,h8.lower Oj hb⟩
def Xv (t:gy):Nat:=t.name.size
def aa0 (t:dh):Nat:=t.name.size+A8 ada t.outs+A8 Oy t.code+A8 (A8 Oy) t.args
def Jc (k:ak):Nat:=k.name.size+A8 Xv k.ins+A8 Xv k.outs+A8 ada k.ay+k.aj.length+k.insts.length+A8 aa0 k.body
end Go.Proofs.YtlcgnbcgmljpaaaGreat
