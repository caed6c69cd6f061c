import Derived.Test.YtflcnhfakcgkeaaGreatToE
import Derived.Test.YtflcnhfakcgkeaaGreatMapF
import Derived.Laws.BytesString
namespace Go.Proofs.YtflcnhfakcgkeaaGreat
open Go.RowKit
set_option linter.unusedSimpArgs false
set_option linter.unusedVariables false
def Kind2 (v v':Value):Prop:=v'=v∨(∃x y,v=.int .i64 x∧v'=.int .i64 y)∨(∃s t,v=.string s∧v'=.string t)∨(∃s t,v=.bool s∧v'=.bool t)
theorem Kind2.refl (v:Value):Kind2 v v:=Or.inl rfl
theorem Kind2.int {x:Int} {v':Value} (h:Kind2 (.int .i64 x) v'):∃y,v'=.int .i64 y:=by
 rcases h with h|⟨_,y,_,h⟩|⟨s,_,h,_⟩|⟨s,_,h,_⟩
 ·exact⟨x,h⟩
 ·exact⟨y,h⟩
 ·cases h
 ·cases h
theorem Kind2.str {x:ByteArray} {v':Value} (h:Kind2 (.string x) v'):∃y,v'=.string y:=by
 rcases h with h|⟨_,y,h,_⟩|⟨s,t,_,h⟩|⟨s,_,h,_⟩
 ·exact⟨x,h⟩
 ·cases h
 ·exact⟨t,h⟩
 ·cases h
theorem Kind2.boo {x:Bool} {v':Value} (h:Kind2 (.bool x) v'):∃y,v'=.bool y:=by
 rcases h with h|⟨_,y,h,_⟩|⟨s,_,h,_⟩|⟨s,t,_,h⟩
 ·exact⟨x,h⟩
 ·cases h
 ·cases h
 ·exact⟨t,h⟩
theorem Kind2.sl {a:Option Addr} {n c:Nat} {v':Value} (h:Kind2 (.slice a n c) v'):v'=.slice a n c:=by
 rcases h with h|⟨_,y,h,_⟩|⟨s,t,h,_⟩|⟨s,t,h,_⟩
 ·exact h
 ·cases h
 ·cases h
 ·cases h
theorem Kind2.trans {a b c:Value} (h:Kind2 a b) (k:Kind2 b c):Kind2 a c:=by
 rcases h with rfl|⟨x,y,rfl,rfl⟩|⟨s,t,rfl,rfl⟩|⟨s,t,rfl,rfl⟩
 ·exact k
 ·obtain⟨z,rfl⟩:=k.int
  exact Or.inr (Or.inl ⟨_,_,rfl,rfl⟩)
 ·obtain⟨z,rfl⟩:=k.str
  exact Or.inr (Or.inr (Or.inl ⟨_,_,rfl,rfl⟩))
 ·obtain⟨z,rfl⟩:=k.boo
  exact Or.inr (Or.inr (Or.inr ⟨_,_,rfl,rfl⟩))
theorem Kind2.ints (x y:Int):Kind2 (.int .i64 x) (.int .i64 y):=Or.inr (Or.inl ⟨x,y,rfl,rfl⟩)
theorem Kind2.strs (x y:ByteArray):Kind2 (.string x) (.string y):=Or.inr (Or.inr (Or.inl ⟨x,y,rfl,rfl⟩))
theorem Kind2.bools (x y:Bool):Kind2 (.bool x) (.bool y):=Or.inr (Or.inr (Or.inr ⟨x,y,rfl,rfl⟩))
theorem aop (w:World) (p q:Addr) (u:Value):(w.setCell p u).frozen? q=w.frozen? q:=by
 simp only[World.frozen?,World.setCell,Array.getElem?_modify]
 by_cases h:p.block=q.block
 ·rw[if_pos h]
  cases w.heap[q.block]? with
  | none=>rfl
  | some o=>cases o<;>rfl
 ·rw[if_neg h]
theorem ag9 (w:World) (b o:Nat) (u v:Value) (h:w.cell? ⟨b,o,none⟩=some v):(w.setCell ⟨b,o,none⟩ u).cell? ⟨b,o,none⟩=some u:=by
 simp only[World.cell?,World.setCell,Array.getElem?_modify,if_true] at *
 cases hh:w.heap[b]? with
 | none=>rw[hh] at h;simp at h
 | some x =>
  cases x with
  | cells c t f =>
   rw[hh] at h
   simp at h
   have hl:o<c.size:=(Array.getElem?_eq_some_iff.1 h).1
   simp[hl]
  | _=>rw[hh] at h;simp at h
structure Mk (lo hi:Nat) (w w':World):Prop where
 os:w'.os=w.os
 tape:w'.tape=w.tape
 output:w'.output=w.output
 size:w.heap.size<=w'.heap.size
 out:∀k,k<w.heap.size->(k<lo∨hi<=k)->w'.heap[k]?=w.heap[k]?
 cells:∀b o v,lo<=b->b<hi->w.cell? ⟨b,o,none⟩=some v->∃v',w'.cell? ⟨b,o,none⟩=some v'∧Kind2 v v'
 frz:∀b o,lo<=b->b<hi->w'.frozen? ⟨b,o,none⟩=w.frozen? ⟨b,o,none⟩
theorem Mk.refl (lo hi:Nat) (w:World):Mk lo hi w w:=⟨rfl,rfl,rfl,Nat.le_refl _,fun _ _ _=>rfl,fun _ _ v _ _ h=>⟨v,h,Kind2.refl v⟩,fun _ _ _ _=>rfl⟩
theorem Mk.trans {lo hi:Nat} {a b c:World} (h:Mk lo hi a b) (k:Mk lo hi b c):Mk lo hi a c :=
 ⟨k.os.trans h.os,k.tape.trans h.tape,k.output.trans h.output,Nat.le_trans h.size k.size,fun i hi ho=>(k.out i (Nat.lt_of_lt_of_le hi h.size) ho).trans (h.out i hi ho),fun bb o v h1 h2 h3=>by
  obtain⟨v1,h4,h5⟩:=h.cells bb o v h1 h2 h3
  obtain⟨v2,h6,h7⟩:=k.cells bb o v1 h1 h2 h4
  exact⟨v2,h6,h5.trans h7⟩,fun bb o h1 h2=>(k.frz bb o h1 h2).trans (h.frz bb o h1 h2)⟩
theorem Mk.of_below {lo hi:Nat} {w w':World} (h:Below w.heap.size w w') (hh:hi<=w.heap.size):Mk lo hi w w' :=
 ⟨h.os,h.tape,h.output,h.size,fun k hk _=>h.block k hk,fun b o v _ h2 h3=>⟨v,(h.cell (p:=⟨b,o,none⟩) (show b<_ by omega)).trans h3,Kind2.refl v⟩,fun b o _ h2=>h.frozen (p:=⟨b,o,none⟩) (show b<_ by omega)⟩
theorem Mk.then {lo hi:Nat} {w w1 w':World} (h:Mk lo hi w w1) (hb:Below w1.heap.size w1 w') (hh:hi<=w.heap.size):Mk lo hi w w':=h.trans (Mk.of_below hb (Nat.le_trans hh h.size))
theorem Mk.setCell {lo hi:Nat} {w w':World} (h:Mk lo hi w w') {b o:Nat} {v u:Value} (h1:lo<=b) (h2:b<hi) (hc:w'.cell? ⟨b,o,none⟩=some v) (hk:Kind2 v u):Mk lo hi w (w'.setCell ⟨b,o,none⟩ u):=by
 refine h.trans ⟨rfl,rfl,rfl,by simp[World.setCell],fun k hk ho=>Below.heap_setCell _ _ _ _ (by simp only;omega),fun b' o' v' h3 h4 h5=>?_,fun b' o' _ _=>aop _ _ _ _⟩
 by_cases e:b'=b∧o'=o
 ·obtain⟨rfl,rfl⟩:=e
  rw[hc] at h5
  obtain rfl:v=v':=by simpa using h5
  exact⟨u,ag9 _ _ _ _ _ hc,hk⟩
 ·exact⟨v',(Dv _ _ _ _ _ (by simp only;omega)).trans h5,Kind2.refl _⟩
theorem Mk.below {lo hi:Nat} {w w':World} (h:Mk lo hi w w') (hl:lo<=w.heap.size):Below lo w w':=⟨h.os,h.tape,h.output,h.size,fun k hk=>h.out k (by omega) (Or.inl hk)⟩
def ElK {α:Type} (sz:Nat) (R:Nat->Nat->World->List Value->α->Prop) (lo hi:Nat) (w:World) (b off:Nat) (x:α):Prop :=
 lo<=b∧b<hi∧∃cs,cs.length=sz∧(∀j (hj:j<cs.length),w.cell? ⟨b,off+j,none⟩=some cs[j]∧w.frozen? ⟨b,off+j,none⟩=false)∧R lo hi w cs x
def Es {α:Type} (sz:Nat) (R:Nat->Nat->World->List Value->α->Prop) (lo hi:Nat) (w:World) (v:Value) (xs:List α):Prop :=
 ∃a cap,v=.slice a xs.length cap∧Len xs.length∧∀i (h:i<xs.length),∃b o,a=some ⟨b,o,none⟩∧ElK sz R lo hi w b (o+i*sz) xs[i]
def Ui {α:Type} (R:Nat->Nat->World->List Value->α->Prop):Prop:=∀lo hi w w' cs cs' x,Mk lo hi w w'->cs'.length=cs.length->(∀j (h:j<cs.length) (h':j<cs'.length),Kind2 cs[j] cs'[j])->R lo hi w cs x->R lo hi w' cs' x
theorem aoq (sz:Nat) (P:Nat->Value->Prop) (h:∀j,j<sz->∃v,P j v):∃cs:List Value,cs.length=sz∧∀j (hj:j<cs.length),P j cs[j]:=by
 induction sz with
 | zero=>exact⟨[],rfl,fun j hj=>absurd hj (Nat.not_lt_zero _)⟩
 | succ n ih =>
  obtain⟨cs,hl,hc⟩:=ih (fun j hj=>h j (by omega))
  obtain⟨v,hv⟩:=h n (by omega)
  refine⟨cs++[v],by simp[hl],fun j hj=>?_⟩
  by_cases e:j<cs.length
  ·rw[List.getElem_append_left e]
   exact hc j e
  ·have e2:j=cs.length:=by simp at hj;omega
   subst e2
   rw[List.getElem_append_right (Nat.le_refl _)]
   simp only[Nat.sub_self,List.getElem_cons_zero]
   rw[hl]
   exact hv
theorem ElK.stays {α:Type} {sz:Nat} {R:Nat->Nat->World->List Value->α->Prop} (hR:Ui R) {lo hi:Nat} {w w':World} {b off:Nat} {x:α} (hm:Mk lo hi w w') (h:ElK sz R lo hi w b off x):ElK sz R lo hi w' b off x:=by
 obtain⟨h1,h2,cs,hl,hc,hr⟩:=h
 refine⟨h1,h2,?_⟩
 obtain⟨cs',hl',hc'⟩:=aoq sz (fun j v=>w'.cell? ⟨b,off+j,none⟩=some v∧∃u,cs[j]?=some u∧Kind2 u v) (fun j hj=>by
  obtain⟨v',h3,h4⟩:=hm.cells b (off+j) _ h1 h2 (hc j (by omega)).1
  exact⟨v',h3,_,List.getElem?_eq_getElem (by omega),h4⟩)
 refine⟨cs',hl',fun j hj=>⟨(hc' j hj).1,?_⟩,hR _ _ _ _ _ _ _ hm (by omega) (fun j h3 h4=>?_) hr⟩
 ·rw[hm.frz b _ h1 h2]
  exact(hc j (by omega)).2
 ·obtain⟨_,u,h5,h6⟩:=hc' j h4
  rw[List.getElem?_eq_getElem h3] at h5
  obtain rfl:cs[j]=u:=by simpa using h5
  exact h6
theorem Es.stays {α:Type} {sz:Nat} {R:Nat->Nat->World->List Value->α->Prop} (hR:Ui R) {lo hi:Nat} {w w':World} {v:Value} {xs:List α} (hm:Mk lo hi w w') (h:Es sz R lo hi w v xs):Es sz R lo hi w' v xs:=by
 obtain⟨a,cap,h1,h2,h3⟩:=h
 refine⟨a,cap,h1,h2,fun i hi=>?_⟩
 obtain⟨b,o,h4,h5⟩:=h3 i hi
 exact⟨b,o,h4,h5.stays hR hm⟩
theorem Es.shape {α:Type} {sz:Nat} {R:Nat->Nat->World->List Value->α->Prop} {lo hi:Nat} {w:World} {v:Value} {xs:List α} (h:Es sz R lo hi w v xs):∃a cap,v=.slice a xs.length cap:=by
 obtain⟨a,cap,h1,_⟩:=h
 exact⟨a,cap,h1⟩
theorem Es.same {α:Type} {sz:Nat} {R:Nat->Nat->World->List Value->α->Prop} (hR:Ui R) {lo hi:Nat} {w w':World} {v v':Value} {xs:List α} (hm:Mk lo hi w w') (hk:Kind2 v v') (h:Es sz R lo hi w v xs):Es sz R lo hi w' v' xs:=by
 have h9:=h.stays hR hm
 obtain⟨a,cap,rfl⟩:=h.shape
 rw[hk.sl]
 exact h9
theorem aqs {cs':List Value} {a:Value} (h:cs'.length=[a].length) (hk:∀j (h:j<[a].length) (h':j<cs'.length),Kind2 [a][j] cs'[j]):∃a',cs'=[a']∧Kind2 a a':=by
 match cs',h with
 | [a'],_=>exact⟨a',rfl,hk 0 (by simp) (by simp)⟩
theorem azo {cs':List Value} {a b:Value} (h:cs'.length=[a,b].length) (hk:∀j (h:j<[a,b].length) (h':j<cs'.length),Kind2 [a,b][j] cs'[j]):∃a' b',cs'=[a',b']∧Kind2 a a'∧Kind2 b b':=by
 match cs',h with
 | [a',b'],_=>exact⟨a',b',rfl,hk 0 (by simp) (by simp),hk 1 (by simp) (by simp)⟩
theorem aqt {cs':List Value} {a b c:Value} (h:cs'.length=[a,b,c].length) (hk:∀j (h:j<[a,b,c].length) (h':j<cs'.length),Kind2 [a,b,c][j] cs'[j]):∃a' b' c',cs'=[a',b',c']∧Kind2 a a'∧Kind2 b b'∧Kind2 c c':=by
 match cs',h with
 | [a',b',c'],_=>exact⟨a',b',c',rfl,hk 0 (by simp) (by simp),hk 1 (by simp) (by simp),hk 2 (by simp) (by simp)⟩
def aor (_ _:Nat) (_:World) (cs:List Value) (_:ByteArray):Prop:=∃s,cs=[.string s]
def aem (_ _:Nat) (_:World) (cs:List Value) (_:eu):Prop:=∃x y s,cs=[.int .i64 x,.int .i64 y,.string s]
def aen (lo hi:Nat) (w:World) (cs:List Value) (l:List eu):Prop:=∃v,cs=[v]∧Es 3 aem lo hi w v l
theorem U0:Ui aor:=fun _ _ _ _ _ _ _ _ hl hk ⟨s,h⟩=>by
 subst h
 obtain⟨a',rfl,h1⟩:=aqs hl hk
 obtain⟨y,rfl⟩:=h1.str
 exact⟨y,rfl⟩
theorem Jt:Ui aem:=fun _ _ _ _ _ _ _ _ hl hk ⟨x,y,s,h⟩=>by
 subst h
 obtain⟨a',b',c',rfl,h1,h2,h3⟩:=aqt hl hk
 obtain⟨y1,rfl⟩:=h1.int
 obtain⟨y2,rfl⟩:=h2.int
 obtain⟨y3,rfl⟩:=h3.str
 exact⟨_,_,_,rfl⟩
theorem Uj:Ui aen:=fun _ _ _ _ _ _ _ hm hl hk ⟨v,h,h2⟩=>by
 subst h
 obtain⟨a',rfl,h1⟩:=aqs hl hk
 exact⟨_,rfl,h2.same Jt hm h1⟩
def Yh (lo hi:Nat) (w:World):Prop:=∀b o,lo<=b->b<hi->w.frozen? ⟨b,o,none⟩=false
theorem ql.aqu {B:Nat} {w w':World} (h:ql B w w'):Yh B w'.heap.size w':=fun b o h1 h2=>by
 obtain⟨c,t,h3⟩:=h.free b h1 h2
 simp[World.frozen?,h3]
theorem Es.of {α:Type} {sz oz:Nat} {R:Nat->World->List Value->α->Prop} {K:Nat->Nat->World->List Value->α->Prop} {lo:Nat} {w:World} (hf:Yh lo w.heap.size w) (hK:∀cs x,R lo w cs x->K lo w.heap.size w cs x) {v:Value} {xs:List α} (h:bf sz oz R lo w v xs):Es sz K lo w.heap.size w v xs:=by
 obtain⟨a,cap,h1,_,h2,h3⟩:=h
 refine⟨a,cap,h1,h2,fun i hi=>?_⟩
 obtain⟨b,o,cs,h4,h5,h6,h7,h8,h9⟩:=h3 i hi
 exact⟨b,o,h4,h5,h6,cs,h7,fun j hj=>⟨h8 j hj,hf b _ h5 h6⟩,hK _ _ h9⟩
theorem axb {lo:Nat} {w:World} (cs:List Value) (x:ByteArray) (h:Cc lo w cs x):aor lo w.heap.size w cs x:=⟨_,h.1⟩
theorem aj0 {lo:Nat} {w:World} (cs:List Value) (x:eu) (h:jw lo w cs x):aem lo w.heap.size w cs x:=⟨_,_,_,h.1⟩
theorem aqv {lo:Nat} {w:World} (hf:Yh lo w.heap.size w) (cs:List Value) (x:List eu) (h:yu lo w cs x):aen lo w.heap.size w cs x:=by
 obtain⟨v,h1,h2⟩:=h
 exact⟨v,h1,Es.of hf aj0 h2⟩
def mStr (_:ByteArray):Nat:=1
def Ju (_:eu):Nat:=3
def J6 (l:List eu):Nat:=uf Ju l l.length
theorem Wi {α:Type} (f:α->Nat) (xs:List α) (k:Nat) (h:k<=xs.length):uf f xs k<=uf f xs xs.length:=by
 obtain⟨d,hd⟩:=Nat.exists_eq_add_of_le h
 have:∀d,k+d<=xs.length->uf f xs k<=uf f xs (k+d):=by
  intro d
  induction d with
  | zero=>intro _;exact Nat.le_refl _
  | succ d ih =>
   intro h2
   have h3:=ih (by omega)
   have h4:=Dk f xs (k+d) (by omega)
   rw[show k+(d+1)=k+d+1 from by omega,h4]
   omega
 have h5:=this d (by omega)
 rw[←hd] at h5
 exact h5
theorem Jv {α:Type} (f g:α->Nat) (c:Nat) (hc:∀x,f x<=c*(1+g x)) (xs:List α):uf f xs xs.length<=c*Bc g xs:=by
 unfold uf Bc
 rw[List.take_length]
 induction xs with
 | nil=>simp
 | cons x xs ih =>
  have h1:=hc x
  simp only[List.map_cons,List.sum_cons,List.length_cons]
  rw[show xs.length+1+(g x+(xs.map g).sum)=(1+g x)+(xs.length+(xs.map g).sum) from by omega,Nat.mul_add]
  omega
theorem axc (xs:List ByteArray):uf mStr xs xs.length<=8*Bc afh xs:=Jv _ _ _ (fun x=>by unfold mStr;omega) xs
theorem aj1 (xs:List eu):uf Ju xs xs.length<=8*Bc Pe xs:=Jv _ _ _ (fun x=>by unfold Ju;omega) xs
theorem aqw (xs:List (List eu)):uf J6 xs xs.length<=8*Bc (Bc Pe) xs:=Jv _ _ _ (fun x=>by have:=aj1 x;unfold J6;omega) xs
def Wj (lo hi:Nat) (w:World) (r:Nat) (e:Ending) (w':World):Prop:=e=.returned (.int .i64 (r:Int))∧Mk lo hi w w'
theorem a1h (w:World) (d:Int):(convert 120 9 (.slice (some ⟨w.heap.size,0,none⟩) 1 1)).run Tryz.prog (w.alloc (.cells #[.int .u8 d] 5))=.ok (.string (ByteArray.empty.push (UInt8.ofNat d.toNat))) (w.alloc (.cells #[.int .u8 d] 5)):=by
 rw[run_convert_bytes_string _ _ _ _ _ _ _ Tryz.underlying120 Tryz.underlying5 Tryz.underlying9]
 refine run_bytesToString _ _ _ _ [d] ?_
 simp[loadCells,go_sem]
def dgB (n:Nat):ByteArray:=ByteArray.empty.push (48+UInt8.ofNat (n % 10))
def mtF:Nat->Nat->ByteArray->ByteArray
 | 0,_,s=>s
 | f+1,n,s=>if n=0 then s else mtF f (n / 10) (dgB n++s)
theorem mtF_more:∀ (f g n:Nat) (s:ByteArray),n<=f->n<=g->mtF f n s=mtF g n s
 | 0,0,_,_,_,_=>rfl
 | 0,g+1,n,s,h,_=>by rw [mtF,mtF,if_pos (by omega)]
 | f+1,0,n,s,_,h=>by rw [mtF,mtF,if_pos (by omega)]
 | f+1,g+1,n,s,h1,h2=>by
  rw [mtF,mtF]
  by_cases h:n=0
  · rw [if_pos h,if_pos h]
  · rw [if_neg h,if_neg h,mtF_more f g _ _ (by omega) (by omega)]
def mtB (n:Nat) (s:ByteArray):ByteArray:=mtF n n s
theorem mtB_eq (n:Nat) (s:ByteArray):mtB n s=if n=0 then s else mtB (n / 10) (dgB n++s):=by
 unfold mtB
 cases n with
 | zero=>rfl
 | succ n=>rw [mtF,if_neg (by omega),if_neg (by omega),mtF_more n _ _ _ (by omega) (Nat.le_refl _)]
def aa8 (k:Nat):ByteArray:=if k=0 then ⟨#[109,48]⟩ else ⟨#[109]⟩++mtB k ByteArray.empty
set_option maxHeartbeats 1000000 in
theorem alk (k:Nat) (w:World) (hk:k<=4611686018427387904):Calls Tryz.prog 32 #[.int .i64 (k:Int)] w (Ans (.string (aa8 k)) w):=by
 have hcv:=a1h
 by_cases h0:k=0
 ·subst h0
  go_enter Tryz.func32,Tryz.ntmps32
  go_wp2
  go_ret
  exact⟨rfl,Below.refl _ _⟩
 have e0:decide ((k:Int)<=0)=false:=decide_eq_false (by omega)
 have HMT:Hid (aa8 k=⟨#[109]⟩++mtB k ByteArray.empty):=by
  refine hide ?_
  unfold aa8
  rw[if_neg h0]
 generalize aa8 k=R at *
 go_enter Tryz.func32,Tryz.ntmps32
 go_wp2
 go_loopg [0,3] k (fun g kk o wr=>∃(n:Nat) (s:ByteArray),n<=k∧g=n∧kk=.int .i64 (n:Int)∧o=.string s∧Hid (mtB n s=mtB k ByteArray.empty)∧s.size+n<=k∧Below w.heap.size w wr)
 case atStart=>exact⟨k,_,Nat.le_refl _,rfl,rfl,rfl,rfl,(by show 0+k<=k;omega),Below.refl _ _⟩
 case round =>
  obtain⟨n,s,hn,hg,rfl,rfl,hm,hsz,hbl⟩:=hrel
  have HG:=hide hg
  have yj:=hide hbl
  have hs:=hbl.size
  clear hg hbl
  by_cases hz:n=0
  ·have HE:Hid (s=mtB k ByteArray.empty):=by
    refine hide ?_
    have h9:=uh hm
    rw[hz] at h9
    rw[←h9]
    rfl
   have f1:decide (0<(n:Int))=false:=decide_eq_false (by omega)
   have f2:decide (0<n)=false:=decide_eq_false (by omega)
   clear hm hz
   go_wp2
   all_goals
    go_ret
    refine⟨?_,uh yj⟩
    rw[uh HMT,uh HE]
    rfl
  ·have f1:decide (0<(n:Int))=true:=decide_eq_true (by omega)
   have HS:Hid (mtB (n / 10) (ByteArray.empty.push (48+UInt8.ofNat (n % 10))++s)=mtB k ByteArray.empty):=by
    refine hide ?_
    rw[←uh hm]
    rw [mtB_eq n s, if_neg hz]
    rfl
   clear hm
   have HSZ:=hide hsz
   go_wp2
   go_roundg (n / 10)
   case measure=>have:=uh HG;omega
   case rel=>exact⟨n / 10,_,by omega,rfl,by go_num,rfl,HS,(by rw[ByteArray.size_append,ByteArray.size_push];have:=uh HSZ;have h3:ByteArray.empty.size=0:=rfl;omega),(uh yj).alloc hs _⟩
theorem Kq (K:Int) (k:Nat) (w:World) (hK:K=(k:Int)) (hk:k<=4611686018427387904):Calls Tryz.prog 32 #[.int .i64 K] w (Ans (.string (aa8 k)) w):=by
 subst hK
 exact alk k w hk
set_option maxHeartbeats 1000000 in
theorem afo (xs:List ByteArray) (v:Value) (K:Int) (k r lo hi:Nat) (w:World) (hK:K=(k:Int)) (hr:k+uf mStr xs xs.length=r) (hrb:r<=1000000000) (hv:Es 1 aor lo hi w v xs) (hhi:hi<=w.heap.size) :
  Calls Tryz.prog 57 #[v,.int .i64 K] w (Wj lo hi w r):=by
 subst hK
 obtain⟨a,cap,rfl,hn,hx⟩:=hv
 unfold Len at hn
 have HX:=hide hx
 have Jk:=hide (fun q hq=>Wi mStr xs q hq)
 have Ru:=hide hhi
 have HR:=hide hr
 have Yi:=hide hrb
 clear hx hhi hr hrb
 go_enter Tryz.func57,Tryz.ntmps57
 go_wp2
 go_loopg [1,5] xs.length (fun g kk i wr=>∃(q kq:Nat),q<=xs.length∧g=xs.length-q∧i=.int .i64 q∧kk=.int .i64 (kq:Int)∧Hid (k+uf mStr xs q=kq)∧Hid (Mk lo hi w wr))
 case atStart=>exact⟨0,k,Nat.zero_le _,by omega,rfl,rfl,by rw[D8];rfl,Mk.refl _ _ _⟩
 case round =>
  obtain⟨q,kq,hq,hg,rfl,rfl,G9,Ef⟩:=hrel
  have HG:=hide hg
  clear hg
  by_cases hlt:q<xs.length
  ·obtain⟨b,o,rfl,hel⟩:=uh HX q hlt
   have hel:=hel.stays U0 (uh Ef)
   have hst:k+uf mStr xs (q+1)=kq+mStr xs[q]:=by
    rw[Dk _ _ _ hlt,←uh G9]
    omega
   have hkb:kq+mStr xs[q]<=1000000000:=by
    have h1:=uh Jk (q+1) (by omega)
    have h2:=uh HR
    have h3:=uh Yi
    omega
   generalize xs[q]=x at hel hst hkb
   have em:mStr x=1:=rfl
   rw[em] at hst hkb
   have HST:=hide hst
   have H6:=hide hel
   have hh0:hi<=wr.heap.size:=Nat.le_trans (uh Ru) (uh Ef).size
   have R0:=hide (Mk.refl lo hi wr)
   clear hst hel em
   obtain⟨hlo,Ap,cs,hcs,hc,⟨s0,rfl⟩⟩:=(uh H6).stays U0 (uh R0)
   clear hc hcs
   go_wp2_with fail
   refine(Kq _ (kq+0) _ (by omega) (by omega)).mono ?_
   rintro e w1 ⟨rfl,hb⟩
   have seg:Mk lo hi wr w1:=Mk.then (Mk.refl lo hi wr) hb hh0
   have R1:=hide ((uh R0).trans seg)
   have hh1:hi<=w1.heap.size:=Nat.le_trans hh0 seg.size
   clear hb seg
   clear hlo Ap
   obtain⟨hlo,Ap,cs,hcs,hc,⟨s0,rfl⟩⟩:=(uh H6).stays U0 (uh R1)
   have c0:=(hc 0 (by simp)).1
   have f0:=(hc 0 (by simp)).2
   simp only[Nat.mul_one,Nat.add_zero,List.getElem_cons_zero,List.getElem_cons_succ] at c0 f0
   clear hc hcs
   go_wp2
   go_roundg (xs.length-(q+1))
   case measure=>have:=uh HG;omega
   case rel=>exact⟨q+1,kq+1,by omega,rfl,by go_num,by go_num,(by refine hide ?_;have:=uh HST;omega),(by refine hide ?_;exact(uh Ef).trans ((uh R1).trans ((Mk.refl lo hi w1).setCell hlo Ap c0 (Kind2.strs _ _))))⟩
  ·have e:q=xs.length:=by omega
   have HE:Hid (kq=r):=by
    refine hide ?_
    rw[←uh G9,←uh HR,e]
   clear e
   go_wp2
   go_ret
   exact⟨(by rw[uh HE];rfl),uh Ef⟩
set_option maxHeartbeats 1000000 in
theorem aa9 (xs:List eu) (v:Value) (K:Int) (k r lo hi:Nat) (w:World) (hK:K=(k:Int)) (hr:k+uf Ju xs xs.length=r) (hrb:r<=1000000000) (hv:Es 3 aem lo hi w v xs) (hhi:hi<=w.heap.size) :
  Calls Tryz.prog 58 #[v,.int .i64 K] w (Wj lo hi w r):=by
 subst hK
 obtain⟨a,cap,rfl,hn,hx⟩:=hv
 unfold Len at hn
 have HX:=hide hx
 have Jk:=hide (fun q hq=>Wi Ju xs q hq)
 have Ru:=hide hhi
 have HR:=hide hr
 have Yi:=hide hrb
 clear hx hhi hr hrb
 go_enter Tryz.func58,Tryz.ntmps58
 go_wp2
 go_loopg [1,5] xs.length (fun g kk i wr=>∃(q kq:Nat),q<=xs.length∧g=xs.length-q∧i=.int .i64 q∧kk=.int .i64 (kq:Int)∧Hid (k+uf Ju xs q=kq)∧Hid (Mk lo hi w wr))
 case atStart=>exact⟨0,k,Nat.zero_le _,by omega,rfl,rfl,by rw[D8];rfl,Mk.refl _ _ _⟩
 case round =>
  obtain⟨q,kq,hq,hg,rfl,rfl,G9,Ef⟩:=hrel
  have HG:=hide hg
  clear hg
  by_cases hlt:q<xs.length
  ·obtain⟨b,o,rfl,hel⟩:=uh HX q hlt
   have hel:=hel.stays Jt (uh Ef)
   have hst:k+uf Ju xs (q+1)=kq+Ju xs[q]:=by
    rw[Dk _ _ _ hlt,←uh G9]
    omega
   have hkb:kq+Ju xs[q]<=1000000000:=by
    have h1:=uh Jk (q+1) (by omega)
    have h2:=uh HR
    have h3:=uh Yi
    omega
   generalize xs[q]=x at hel hst hkb
   have em:Ju x=3:=rfl
   rw[em] at hst hkb
   have HST:=hide hst
   have H6:=hide hel
   have hh0:hi<=wr.heap.size:=Nat.le_trans (uh Ru) (uh Ef).size
   have R0:=hide (Mk.refl lo hi wr)
   clear hst hel em
   obtain⟨hlo,Ap,cs,hcs,hc,⟨s0,s1,s2,rfl⟩⟩:=(uh H6).stays Jt (uh R0)
   have c0:=(hc 0 (by simp)).1
   have f0:=(hc 0 (by simp)).2
   have c1:=(hc 1 (by simp)).1
   have f1:=(hc 1 (by simp)).2
   simp only[Nat.mul_one,Nat.add_zero,List.getElem_cons_zero,List.getElem_cons_succ] at c0 f0 c1 f1
   clear hc hcs
   go_wp2_with fail
   refine(Kq _ (kq+2) _ (by omega) (by omega)).mono ?_
   rintro e w1 ⟨rfl,hb⟩
   have seg:Mk lo hi wr w1:=Mk.then (((Mk.refl lo hi wr).setCell hlo Ap c0 (Kind2.ints _ _)).setCell hlo Ap (by rw[Dv _ _ _ _ _ (Or.inr (by simp))];exact c1) (Kind2.ints _ _)) hb hh0
   have R1:=hide ((uh R0).trans seg)
   have hh1:hi<=w1.heap.size:=Nat.le_trans hh0 seg.size
   clear hb seg
   clear c0 f0 c1 f1
   clear hlo Ap
   obtain⟨hlo,Ap,cs,hcs,hc,⟨s0,s1,s2,rfl⟩⟩:=(uh H6).stays Jt (uh R1)
   have c2:=(hc 2 (by simp)).1
   have f2:=(hc 2 (by simp)).2
   simp only[Nat.mul_one,Nat.add_zero,List.getElem_cons_zero,List.getElem_cons_succ] at c2 f2
   clear hc hcs
   go_wp2
   go_roundg (xs.length-(q+1))
   case measure=>have:=uh HG;omega
   case rel=>exact⟨q+1,kq+3,by omega,rfl,by go_num,by go_num,(by refine hide ?_;have:=uh HST;omega),(by refine hide ?_;exact(uh Ef).trans ((uh R1).trans ((Mk.refl lo hi w1).setCell hlo Ap c2 (Kind2.strs _ _))))⟩
  ·have e:q=xs.length:=by omega
   have HE:Hid (kq=r):=by
    refine hide ?_
    rw[←uh G9,←uh HR,e]
   clear e
   go_wp2
   go_ret
   exact⟨(by rw[uh HE];rfl),uh Ef⟩
set_option maxHeartbeats 1000000 in
theorem aha (xs:List (List eu)) (v:Value) (K:Int) (k r lo hi:Nat) (w:World) (hK:K=(k:Int)) (hr:k+uf J6 xs xs.length=r) (hrb:r<=1000000000) (hv:Es 1 aen lo hi w v xs) (hhi:hi<=w.heap.size) :
  Calls Tryz.prog 59 #[v,.int .i64 K] w (Wj lo hi w r):=by
 subst hK
 obtain⟨a,cap,rfl,hn,hx⟩:=hv
 unfold Len at hn
 have HX:=hide hx
 have Jk:=hide (fun q hq=>Wi J6 xs q hq)
 have Ru:=hide hhi
 have HR:=hide hr
 have Yi:=hide hrb
 clear hx hhi hr hrb
 go_enter Tryz.func59,Tryz.ntmps59
 go_wp2
 go_loopg [1,5] xs.length (fun g kk i wr=>∃(q kq:Nat),q<=xs.length∧g=xs.length-q∧i=.int .i64 q∧kk=.int .i64 (kq:Int)∧Hid (k+uf J6 xs q=kq)∧Hid (Mk lo hi w wr))
 case atStart=>exact⟨0,k,Nat.zero_le _,by omega,rfl,rfl,by rw[D8];rfl,Mk.refl _ _ _⟩
 case round =>
  obtain⟨q,kq,hq,hg,rfl,rfl,G9,Ef⟩:=hrel
  have HG:=hide hg
  clear hg
  by_cases hlt:q<xs.length
  ·obtain⟨b,o,rfl,hel⟩:=uh HX q hlt
   have hel:=hel.stays Uj (uh Ef)
   have hst:k+uf J6 xs (q+1)=kq+J6 xs[q]:=by
    rw[Dk _ _ _ hlt,←uh G9]
    omega
   have hkb:kq+J6 xs[q]<=1000000000:=by
    have h1:=uh Jk (q+1) (by omega)
    have h2:=uh HR
    have h3:=uh Yi
    omega
   generalize xs[q]=x at hel hst hkb
   have em:J6 x=uf Ju x x.length:=rfl
   rw[em] at hst hkb
   have HST:=hide hst
   have H6:=hide hel
   have hh0:hi<=wr.heap.size:=Nat.le_trans (uh Ru) (uh Ef).size
   have R0:=hide (Mk.refl lo hi wr)
   clear hst hel em
   obtain⟨hlo,Ap,cs,hcs,hc,⟨v0,rfl,g0⟩⟩:=(uh H6).stays Uj (uh R0)
   have c0:=(hc 0 (by simp)).1
   have f0:=(hc 0 (by simp)).2
   simp only[Nat.mul_one,Nat.add_zero,List.getElem_cons_zero,List.getElem_cons_succ] at c0 f0
   obtain⟨sa0,sc0,rfl⟩:=g0.shape
   have G0:=hide g0
   clear g0
   clear hc hcs
   obtain⟨r1,hr1⟩:∃r,kq+0+uf Ju x (x).length=r:=⟨_,rfl⟩
   have at7:r1<=1000000000:=by omega
   have HR1:=hide hr1
   clear hr1
   go_wp2_with fail
   refine(aa9 _ _ _ (kq+0) r1 lo hi _ (by omega) (uh HR1) at7 ((uh G0).stays Jt (Mk.refl lo hi wr)) (Nat.le_trans hh0 (Mk.size (Mk.refl lo hi wr)))).mono ?_
   rintro e w1 ⟨rfl,hm⟩
   have seg:Mk lo hi wr w1:=Mk.trans (Mk.refl lo hi wr) hm
   have R1:=hide ((uh R0).trans seg)
   have hh1:hi<=w1.heap.size:=Nat.le_trans hh0 seg.size
   clear hm seg
   clear c0 f0
   clear G0
   clear hlo Ap
   go_wp2
   go_roundg (xs.length-(q+1))
   case measure=>have:=uh HG;omega
   case rel=>exact⟨q+1,r1+0,by omega,rfl,by go_num,by go_num,(by refine hide ?_;have:=uh HST;have:=uh HR1;omega),(by refine hide ?_;exact(uh Ef).trans ((uh R1).trans (Mk.refl lo hi w1)))⟩
  ·have e:q=xs.length:=by omega
   have HE:Hid (kq=r):=by
    refine hide ?_
    rw[←uh G9,←uh HR,e]
   clear e
   go_wp2
   go_ret
   exact⟨(by rw[uh HE];rfl),uh Ef⟩
def ado (w:World) (v:Value) (n:Nat):Prop:=∃a cap,v=.slice a n cap∧n<=1000000∧(0<n->∃g N,n<=N∧a=some ⟨g,0,none⟩∧zi w g N)
def Marked (w:World) (v:Value) (n k:Nat):Prop:=∃a cap,v=.slice a n cap∧n<=1000000∧∀i,i<n->∃g,a=some ⟨g,0,none⟩∧w.cell? ⟨g,i,none⟩=some (.int .i64 ((k+i:Nat):Int))
def Qn (v:Value) (w w':World):Prop:=w'.os=w.os∧w'.tape=w.tape∧w'.output=w.output∧w.heap.size<=w'.heap.size∧∀k,k<w.heap.size->v.ownBlock≠some k->w'.heap[k]?=w.heap[k]?
set_option maxHeartbeats 1000000 in
theorem afp (v:Value) (n k r:Nat) (w:World) (hv:ado w v n) (hk:k<=1000000000) (hr:k+n=r) :
  Calls Tryz.prog 11 #[v,.int .i64 (k:Int)] w (fun e w'=>e=.returned (.int .i64 (r:Int))∧Marked w' v n k∧Qn v w w'):=by
 obtain⟨a,cap,rfl,hn,hrow⟩:=hv
 have HR:=hide hr
 clear hr
 by_cases h0:n=0
 ·subst h0
  have HE:Hid (r=k):=by have:=uh HR;refine hide ?_;omega
  clear hrow HR
  go_enter Tryz.func11,Tryz.ntmps11
  go_wp2
  go_loopg [1,5] 0 (fun g kk i wr=>i=.int .i64 0∧kk=.int .i64 (k:Int)∧wr=w)
  case atStart=>exact⟨rfl,rfl,rfl⟩
  case round =>
   obtain⟨rfl,rfl,hw⟩:=hrel
   subst hw
   go_wp2
   go_ret
   exact⟨(by rw[uh HE];rfl),⟨_,_,rfl,by omega,fun i hi=>absurd hi (Nat.not_lt_zero _)⟩,rfl,rfl,rfl,Nat.le_refl _,fun _ _ _=>rfl⟩
 obtain⟨g,N,hN,rfl,hrw⟩:=hrow (by omega)
 have Py:=hide hrw
 have HNN:=hide hN
 clear hrw hrow h0 hN
 go_enter Tryz.func11,Tryz.ntmps11
 go_wp2
 go_loopg [1,5] n (fun gh kk i wr=>∃(q kq:Nat),q<=n∧gh=n-q∧i=.int .i64 q∧kk=.int .i64 (kq:Int)∧Hid (k+q=kq)∧kq<=1001000000∧Hid (zi wr g N)∧Hid (∀i,i<q->wr.cell? ⟨g,i,none⟩=some (.int .i64 ((k+i:Nat):Int)))∧Hid (Qn (.slice (some ⟨g,0,none⟩) n cap) w wr))
 case atStart=>exact⟨0,k,Nat.zero_le _,by omega,rfl,rfl,rfl,by omega,Py,fun i hi=>absurd hi (Nat.not_lt_zero _),rfl,rfl,rfl,Nat.le_refl _,fun _ _ _=>rfl⟩
 case round =>
  obtain⟨q,kq,hq,hg,rfl,rfl,G9,hkb,HRW,Gv,HOT⟩:=hrel
  have HG:=hide hg
  clear hg
  by_cases hlt:q<n
  ·obtain⟨u,c0⟩:=(uh HRW).cell (Nat.lt_of_lt_of_le hlt (uh HNN))
   have f0:=(uh HRW).frozen q
   have H1:=hide ((uh HRW).set q (.int .i64 (kq:Int)))
   have H2:Hid (∀i,i<q+1->(wr.setCell ⟨g,q,none⟩ (.int .i64 (kq:Int))).cell? ⟨g,i,none⟩=some (.int .i64 ((k+i:Nat):Int))):=fun i hi=>by
    by_cases e:i=q
    ·subst e
     rw[Zx (uh HRW) (Nat.lt_of_lt_of_le hlt (uh HNN)),uh G9]
    ·rw[Dv _ _ _ _ _ (Or.inr e)]
     exact uh Gv i (by omega)
   have H3:Hid (Qn (.slice (some ⟨g,0,none⟩) n cap) w (wr.setCell ⟨g,q,none⟩ (.int .i64 (kq:Int)))):=by
    obtain⟨t1,t2,t3,t4,t5⟩:=uh HOT
    refine hide ⟨t1,t2,t3,by simpa[World.setCell] using t4,fun i hi hne=>?_⟩
    rw[Below.heap_setCell _ _ _ _ (fun e=>hne (by rw[e];rfl))]
    exact t5 i hi hne
   have hkb2:kq<1001000000:=by have:=uh G9;omega
   go_wp2
   go_roundg (n-(q+1))
   case measure=>have:=uh HG;omega
   case rel=>exact⟨q+1,kq+1,by omega,rfl,by go_num,by go_num,(by refine hide ?_;have:=uh G9;omega),by omega,H1,H2,H3⟩
  ·have e:q=n:=by omega
   have HE:Hid (r=kq):=by have:=uh HR;have:=uh G9;refine hide ?_;omega
   have HD:Hid (Marked wr (.slice (some ⟨g,0,none⟩) n cap) n k):=⟨_,_,rfl,hn,fun i hi=>⟨g,rfl,uh Gv i (by omega)⟩⟩
   clear e
   go_wp2
   go_ret
   exact⟨(by rw[uh HE];rfl),uh HD,uh HOT⟩
set_option maxHeartbeats 1000000 in
theorem afq (v:Value) (n k r:Nat) (w:World) (hv:Marked w v n k) (hk:k<=1000000000) (hr:k+n=r) :
  Calls Tryz.prog 12 #[v,.int .i64 (k:Int)] w (Ans (.int .i64 (r:Int)) w):=by
 obtain⟨a,cap,rfl,hn,hrow⟩:=hv
 have HR:=hide hr
 have Py:=hide hrow
 clear hr hrow
 go_enter Tryz.func12,Tryz.ntmps12
 go_wp2
 go_loopg [1,5] n (fun gh kk i wr=>∃(q kq:Nat),q<=n∧gh=n-q∧i=.int .i64 q∧kk=.int .i64 (kq:Int)∧Hid (k+q=kq)∧kq<=1001000000∧wr=w)
 case atStart=>exact⟨0,k,Nat.zero_le _,by omega,rfl,rfl,rfl,by omega,rfl⟩
 case round =>
  obtain⟨q,kq,hq,hg,rfl,rfl,G9,hkb,hw⟩:=hrel
  subst hw
  have HG:=hide hg
  clear hg
  by_cases hlt:q<n
  ·obtain⟨g,rfl,c0⟩:=uh Py q hlt
   rw[uh G9] at c0
   have hkb2:kq<1001000000:=by have:=uh G9;omega
   go_wp2
   go_roundg (n-(q+1))
   case measure=>have:=uh HG;omega
   case rel=>exact⟨q+1,kq+1,by omega,rfl,by go_num,by go_num,(by refine hide ?_;have:=uh G9;omega),by omega,rfl⟩
  ·have HE:Hid (r=kq):=by have:=uh HR;have:=uh G9;refine hide ?_;omega
   go_wp2
   go_ret
   exact⟨(by rw[uh HE];rfl),Below.refl _ _⟩
theorem aj2 (v:Value) (n r:Nat) (w:World) (hv:ado w v n) (hr:1+n=r) :
  Calls Tryz.prog 11 #[v,.int .i64 1] w (fun e w'=>e=.returned (.int .i64 (r:Int))∧Marked w' v n 1∧Qn v w w'):=afp v n 1 r w hv (by omega) hr
theorem aj3 (v:Value) (n r:Nat) (w:World) (hv:Marked w v n 1) (hr:1+n=r) :
  Calls Tryz.prog 12 #[v,.int .i64 1] w (Ans (.int .i64 (r:Int)) w):=afq v n 1 r w hv (by omega) hr
end Go.Proofs.YtflcnhfakcgkeaaGreat
