import Derived.Test.YtflcnhfakcgkeaaGreatFill
import Derived.Test.YtflcnhfakcgkeaaGreatProg
import Derived.WalkLawsBesides
import Derived.Deep.AppendSrc
import Derived.OwnWalk
import Derived.Test.YtflcnhfakcgkeaaGreatItemsB
import Derived.Test.YtflcnhfakcgkeaaGreatSpecEq
namespace Go.Proofs.YtflcnhfakcgkeaaGreat
open Go.RowKit
set_option linter.unusedSimpArgs false
set_option linter.unusedVariables false
def A8 (w:World) (base g cap:Nat) (xs:List Int):Prop:=w.ownsRow base 3 1 (.slice (some ⟨g,0,none⟩) xs.length cap) xs.length (xs.map (Value.int .i64))
theorem A8.below {w w':World} {base g cap:Nat} {xs:List Int} (h:A8 w base g cap xs) (hb:Below w.heap.size w w'):A8 w' base g cap xs:=by
 have hlt:=(World.ownsRow.lt h g rfl).2
 obtain⟨h1,h2⟩:=h
 refine⟨h1,?_⟩
 rcases h2 with h2|⟨g',cap',cur,hv,hg,hh,r⟩
 ·exact Or.inl h2
 ·simp only[Value.slice.injEq,Option.some.injEq,Addr.mk.injEq] at hv
  obtain⟨⟨rfl,_⟩,_,rfl⟩:=hv
  exact Or.inr ⟨g,cap,cur,rfl,hg,(hb.block g hlt).trans hh,r⟩
theorem A8.cell {w:World} {base g cap:Nat} {xs:List Int} (h:A8 w base g cap xs) (i:Nat) (hi:i<xs.length):w.cell? ⟨g,i,none⟩=some ((Value.int .i64) xs[i]):=by
 have:=World.ownsRow.cells h (g:=g) rfl i ((Value.int .i64) xs[i]) (by simp[hi])
 rw[Addr.add_lit,Nat.zero_add] at this
 exact this
theorem A8.lt {w:World} {base g cap:Nat} {xs:List Int} (h:A8 w base g cap xs):g<w.heap.size:=(World.ownsRow.lt h g rfl).2
theorem A8.base {w:World} {base g cap:Nat} {xs:List Int} (h:A8 w base g cap xs):base<=g:=(World.ownsRow.lt h g rfl).1
theorem A8.start (w:World) (base:Nat) (hb:base<=w.heap.size):A8 (w.alloc (.cells #[] 3)) base w.heap.size 0 [] :=
 ⟨rfl,Or.inr ⟨_,_,#[],rfl,hb,Deep.blk_alloc_new _ _,Nat.le_refl _,Nat.zero_le _,rfl,rfl⟩⟩
theorem A8.at {w:World} {base g cap:Nat} {xs:List Int} (h:A8 w base g cap xs) (hR:∀x,x∈xs->Oo 0 w [(Value.int .i64) x] x) (hn:xs.length*8<=140737488355328):bf 1 8 Oo 0 w (.slice (some ⟨g,0,none⟩) xs.length cap) xs:=by
 have hcap:xs.length<=cap:=by
  obtain⟨_,hh⟩:=h
  rcases hh with ⟨hh,_⟩|⟨g1,cap1,cur,hv,_,_,h2,_⟩
  ·cases hh
  ·simp only[Value.slice.injEq] at hv
   obtain⟨_,_,rfl⟩:=hv
   exact h2
 refine⟨_,cap,rfl,⟨hn,hcap⟩,by unfold Len;omega,fun i hi=>⟨g,0,[(Value.int .i64) xs[i]],rfl,Nat.zero_le _,h.lt,rfl,fun j hj=>?_,hR _ (List.getElem_mem hi)⟩⟩
 have hj0:j=0:=by simpa using hj
 subst hj0
 simp only[Nat.zero_add,Nat.mul_one,Nat.add_zero,List.getElem_cons_zero]
 exact h.cell i hi
theorem aku:(Tryz.prog.info? 3).map (fun i=>(i.zero,i.size,i.bytes))=some (some (.int .i64 0),1,8):=by kernel_rfl
theorem Yl (w:World) {ops:Array Oper} {rest:List Oper} {o:Oper} {a:Act} {Q:Exit->Act->World->Prop} (hgd:o.guard=none) (s x:Operand)
  (ho:o.op=.call { callee:=.builtin .append,args:=#[s,x],argTypes:=#[26,26] })
  (base g cap:Nat) (xs:List Int) (hs:a.eval s=.slice (some ⟨g,0,none⟩) xs.length cap) (hown:A8 w base g cap xs)
  (eb:Nat) (y:Int) (hx:a.eval x=.slice (some ⟨eb,0,none⟩) 1 1) (hy:w.cell? ⟨eb,0,none⟩=some ((Value.int .i64) y)) (hb:(xs.length+1)*8<=140737488355328) (hbase:base<=w.heap.size)
  (h:∀g' cap' w',A8 w' base g' cap' (xs++[y])->w.grownBy w' (some g)->wpList Tryz.prog ops Q rest (a.put o.dst (.slice (some ⟨g',0,none⟩) (xs.length+1) cap')) w'):wpList Tryz.prog ops Q (o::rest) a w:=by
 obtain⟨i,hi,hz0,hz1,hz2⟩:=info_parts aku
 refine wpList_append_own w hgd s x 26 ho base 3 i _ 1 8 Tryz.underlying26 hi hz0 hz1 hz2 rfl (by decide) _ xs.length (xs.map (Value.int .i64)) hs hown _ 1 1 [(Value.int .i64) y] hx rfl (fun j u hu=>?_) (fun u hu=>?_) (by simp[maxLen];omega) hb hbase ?_
 ·cases j with
  | zero =>
   simp at hu
   subst hu
   rw[Addr.add_lit,Nat.add_zero]
   exact hy
  | succ j=>simp at hu
 ·simp at hu
  subst hu
  rfl
 ·intro v' w' h1 h2 h3
  obtain⟨hl,hh⟩:=h1
  rcases hh with ⟨rfl,_⟩|⟨g',cap',cur,rfl,hr⟩
  ·have:=h3.1 rfl
   cases this.1
  ·refine h g' cap' w' ⟨by simp,Or.inr ⟨g',cap',cur,by simp,?_⟩⟩ h2
   simpa using hr
theorem ou {B:Nat} {w w':World} {cs:Array Value} {t:TypeId} (h:Below (w.heap.size+1) (w.alloc (.cells cs t)) w') (j:Nat):w'.cell? ⟨w.heap.size,j,none⟩=cs[j]?:=by
 rw[h.cell (p:=⟨w.heap.size,j,none⟩) (Nat.lt_succ_self _),World.cell?_alloc_at _ _ _ _ rfl]
theorem Vy {w w':World} {cs:Array Value} {t:TypeId} (h:Below (w.alloc (.cells cs t)).heap.size (w.alloc (.cells cs t)) w'):Below (w.heap.size+1) (w.alloc (.cells cs t)) w':=by simpa using h
theorem Jl {B:Nat} {w0 w w':World} {g:Nat} (h:Below B w0 w) (hg:w.grownBy w' (some g)) (hB:B<=w.heap.size) (hr:B<=g):Below B w0 w' :=
 h.grown hg hB (fun k e=>by simp only[Option.some.injEq] at e;omega)
def Cs (w:World):List Value->List gy->Prop
 | cells,[]=>cells=[]
 | cells,y::ys=>∃a b c rest,cells=a::b::c::rest∧RVar 0 w [a,b,c] y∧Cs w rest ys
theorem Cs.append {w:World} {c1 c2:List Value} {y1 y2:List gy} (h1:Cs w c1 y1) (h2:Cs w c2 y2):Cs w (c1++c2) (y1++y2):=by
 induction y1 generalizing c1 with
 | nil=>have:c1=[]:=h1;subst this;exact h2
 | cons y ys ih =>
  obtain⟨a,b,c,rest,rfl,hR,hrest⟩:=h1
  exact⟨a,b,c,rest++c2,rfl,hR,ih hrest⟩
theorem Cs.length {w:World} {cs:List Value} {ys:List gy} (h:Cs w cs ys):cs.length=ys.length*3:=by
 induction ys generalizing cs with
 | nil=>have:cs=[]:=h;subst this;rfl
 | cons y ys ih =>
  obtain⟨a,b,c,rest,rfl,hR,hrest⟩:=h
  have:=ih hrest
  simp only[List.length_cons]
  omega
theorem Cs.stays {w w':World} (hb:Below w.heap.size w w') {cs:List Value} {ys:List gy} (h:Cs w cs ys):Cs w' cs ys:=by
 induction ys generalizing cs with
 | nil=>exact h
 | cons y ys ih =>
  obtain⟨a,b,c,rest,rfl,hR,hrest⟩:=h
  exact⟨a,b,c,rest,rfl,ji.stays _ _ _ _ _ hb hR,ih hrest⟩
theorem Cs.one {w:World} {cs:List Value} {ys:List gy} (h:Cs w cs ys):∀u,u∈cs->u.oneCell'=true:=by
 induction ys generalizing cs with
 | nil=>have:cs=[]:=h;subst this;intro u hu;cases hu
 | cons y ys ih =>
  obtain⟨a,b,c,rest,rfl,hR,hrest⟩:=h
  obtain⟨cl,e,_,_,hcl⟩:=hR
  obtain⟨ac,cc,rfl⟩:=hcl.shape
  simp only[List.cons.injEq] at e
  obtain⟨rfl,rfl,rfl,_⟩:=e
  intro u hu
  simp only[List.mem_cons] at hu
  rcases hu with rfl|rfl|rfl|hu
  ·rfl
  ·rfl
  ·rfl
  ·exact ih hrest u hu
theorem Cs.get {w:World} {cs:List Value} {ys:List gy} (h:Cs w cs ys) (i:Nat) (hi:i<ys.length):∃q:List Value,q.length=3∧(∀j (hj:j<q.length),cs[i*3+j]?=some q[j])∧RVar 0 w q ys[i]:=by
 induction ys generalizing cs i with
 | nil=>exact absurd hi (Nat.not_lt_zero _)
 | cons y ys ih =>
  obtain⟨a,b,c,rest,rfl,hR,hrest⟩:=h
  cases i with
  | zero =>
   refine⟨[a,b,c],rfl,fun j hj=>?_,hR⟩
   match j,hj with
   | 0,_=>rfl
   | 1,_=>rfl
   | 2,_=>rfl
  | succ i =>
   obtain⟨q,hq,hc,hr⟩:=ih hrest i (by simpa using hi)
   refine⟨q,hq,fun j hj=>?_,hr⟩
   rw[show (i+1)*3+j=(i*3+j)+1+1+1 from by omega]
   simpa using hc j hj
theorem au2 {w w0:World} {b:Nat} {ys:List gy} {o:Nat} (h:∀i (hi:i<ys.length),∃cs:List Value,cs.length=3∧(∀j (hj:j<cs.length),w.cell? ⟨b,o+i*3+j,none⟩=some cs[j])∧RVar 0 w0 cs ys[i]) :
  ∃news,Cs w0 news ys∧∀j u,news[j]?=some u->w.cell? ((⟨b,o,none⟩:Addr).add j)=some u:=by
 induction ys generalizing o with
 | nil=>exact⟨[],rfl,fun j u h=>by simp at h⟩
 | cons y ys ih =>
  obtain⟨cs,hl,hc,hR⟩:=h 0 (by simp)
  obtain⟨rest,hrest,hcell⟩:=ih (o:=o+3) (fun i hi=>by
   obtain⟨q,hq,hcq,hRq⟩:=h (i+1) (by simpa using hi)
   refine⟨q,hq,fun j hj=>?_,by simpa using hRq⟩
   rw[show o+3+i*3+j=o+(i+1)*3+j from by omega]
   exact hcq j hj)
  match cs,hl with
  | [a0,a1,a2],_ =>
   refine⟨a0::a1::a2::rest,⟨a0,a1,a2,rest,rfl,hR,hrest⟩,fun j u hu=>?_⟩
   match j with
   | 0=>have:=hc 0 (by simp);simp at hu;subst hu;simpa[Addr.add] using this
   | 1=>have:=hc 1 (by simp);simp at hu;subst hu;simpa[Addr.add] using this
   | 2=>have:=hc 2 (by simp);simp at hu;subst hu;simpa[Addr.add] using this
   | j+3 =>
    have:=hcell j u (by simpa using hu)
    rw[←this]
    rw[Addr.add_lit,Addr.add_lit,show o+(j+3)=o+3+j from by omega]
theorem au3:(Tryz.prog.info? 68).map (fun i=>(i.zero,i.size,i.bytes))=some (some (.agg #[.string ByteArray.empty,.int .i64 0,.slice none 0 0]),3,48):=by kernel_rfl
theorem Dq (w w0:World) (hw0:Below w0.heap.size w0 w) {ops:Array Oper} {rest:List Oper} {o:Oper} {a:Act} {Q:Exit->Act->World->Prop} (hgd:o.guard=none) (s x:Operand)
  (ho:o.op=.call { callee:=.builtin .append,args:=#[s,x],argTypes:=#[39,39] })
  (base g n cap:Nat) (cells:List Value) (hs:a.eval s=.slice (some ⟨g,0,none⟩) n cap) (hown:w.ownsRow base 68 3 (.slice (some ⟨g,0,none⟩) n cap) n cells)
  (xv:Value) (hx:a.eval x=xv) (ys:List gy) (hsl:bf 3 48 RVar 0 w0 xv ys) (hb:(n+ys.length)*48<=140737488355328) (hbase:base<=w.heap.size)
  (h:∀g' cap' w' news,w'.ownsRow base 68 3 (.slice (some ⟨g',0,none⟩) (n+ys.length) cap') (n+ys.length) (cells++news)->w.grownBy w' (some g)->Cs w0 news ys->wpList Tryz.prog ops Q rest (a.put o.dst (.slice (some ⟨g',0,none⟩) (n+ys.length) cap')) w'):wpList Tryz.prog ops Q (o::rest) a w:=by
 obtain⟨i,hi,hz0,hz1,hz2⟩:=info_parts au3
 obtain⟨ax,cx,rfl,_,hn,hel⟩:=hsl
 cases ax with
 | none =>
  have hy:ys=[]:=by
   cases ys with
   | nil=>rfl
   | cons y ys =>
    obtain⟨b,o,cs,jr,_⟩:=hel 0 (by simp)
    cases jr
  subst hy
  refine wpList_plain hgd fun K hK=>?_
  have hcap:n<=cap:=by
   obtain⟨_,hh⟩:=hown
   rcases hh with ⟨hh,_⟩|⟨g1,cap1,cur,hv,_,_,h2,_⟩
   ·cases hh
   ·simp only[Value.slice.injEq] at hv
    obtain⟨_,_,rfl⟩:=hv
    exact h2
  have hrun:=run_append_room_src (P:=Tryz.prog) w 39 39 o.type 68 i Tryz.underlying39 hi g 0 n cap (.slice none 0 cx) 0 [] (Src.ofNil w Tryz.underlying39 cx) (by omega) (fun j hj=>by simp at hj) (fun j hj=>by simp at hj)
  unfold Oper.wp execOp
  simp only[ho,resolve,invoke,builtin,Sem.run_bind,Sem.run_pure,Result.andThen_ok,List.map_toArray,List.map_cons,List.map_nil,hs,hx,hrun,List.length_nil]
  refine hK _ _ ?_
  have hsc:w.setCells g (0+n*i.size) []=w:=by simp[World.setCells]
  rw[hsc]
  have:=h g cap w [] (by simpa using hown) (World.grownBy.refl w _) rfl
  simpa using this
 | some ad =>
  by_cases hy:ys.length=0
  ·have hy':ys=[]:=List.eq_nil_of_length_eq_zero hy
   subst hy'
   refine wpList_append_own w hgd s x 39 ho base 68 i _ 3 48 Tryz.underlying39 hi hz0 hz1 hz2 rfl (by decide) _ n cells hs hown ad 0 cx [] (by simpa using hx) (by simp) (fun j u h=>by simp at h) (fun u h=>by cases h) (by simp[maxLen];omega) (by simpa using hb) hbase ?_
   intro v' w' h1 h2 h3
   obtain⟨hl,hh⟩:=h1
   rcases hh with ⟨rfl,_⟩|⟨g',cap',cur,rfl,hr⟩
   ·have:=h3.1 rfl
    cases this.1
   ·exact h g' cap' w' [] ⟨hl,Or.inr ⟨g',cap',cur,rfl,hr⟩⟩ h2 rfl
  ·obtain⟨b,oo,cs,jr,_⟩:=hel 0 (by omega)
   simp only[Option.some.injEq] at jr
   subst jr
   obtain⟨news,hcs,hcell⟩:=au2 (w:=w) (w0:=w0) (b:=b) (ys:=ys) (o:=oo) (fun i hi=>by
    obtain⟨b',o',cs',a0d,_,hlt',hl',hc',hR'⟩:=hel i hi
    simp only[Option.some.injEq,Addr.mk.injEq] at a0d
    obtain⟨rfl,rfl,_⟩:=a0d
    exact⟨cs',hl',fun j hj=>by rw[hw0.cell (p:=⟨b,_,none⟩) hlt'];exact hc' j hj,hR'⟩)
   refine wpList_append_own w hgd s x 39 ho base 68 i _ 3 48 Tryz.underlying39 hi hz0 hz1 hz2 rfl (by decide) _ n cells hs hown _ ys.length cx news hx hcs.length hcell hcs.one (by simp[maxLen];omega) hb hbase ?_
   intro v' w' h1 h2 h3
   obtain⟨hl,hh⟩:=h1
   rcases hh with ⟨rfl,_⟩|⟨g',cap',cur,rfl,hr⟩
   ·have:=h3.1 rfl
    cases this.1
   ·exact h g' cap' w' news ⟨hl,Or.inr ⟨g',cap',cur,rfl,hr⟩⟩ h2 hcs
theorem own_start (w:World) (base:Nat) (hb:base<=w.heap.size) (e:TypeId):(w.alloc (.cells #[] e)).ownsRow base e 3 (.slice (some ⟨w.heap.size,0,none⟩) 0 0) 0 [] :=
 ⟨rfl,Or.inr ⟨_,_,#[],rfl,hb,Deep.blk_alloc_new _ _,Nat.le_refl _,Nat.zero_le _,rfl,rfl⟩⟩
theorem a0e {w:World} {base g n cap:Nat} {e:TypeId} {cells:List Value} (h:w.ownsRow base e 3 (.slice (some ⟨g,0,none⟩) n cap) n cells) {ys:List gy} (hcs:Cs w cells ys) (hn:ys.length=n) (hb:n*48<=140737488355328) :
  bf 3 48 RVar 0 w (.slice (some ⟨g,0,none⟩) n cap) ys:=by
 have hcap:n<=cap:=by
  obtain⟨_,hh⟩:=h
  rcases hh with ⟨hh,_⟩|⟨g1,cap1,cur,hv,_,_,h2,_⟩
  ·cases hh
  ·simp only[Value.slice.injEq] at hv
   obtain⟨_,_,rfl⟩:=hv
   exact h2
 refine⟨_,cap,by rw[hn],⟨by unfold Len;omega,by omega⟩,by unfold Len;omega,fun i hi=>?_⟩
 obtain⟨q,hq,hc,hR⟩:=hcs.get i hi
 refine⟨g,0,q,rfl,Nat.zero_le _,(h.lt g rfl).2,hq,fun j hj=>?_,hR⟩
 have:=h.cells (g:=g) rfl (i*3+j) _ (hc j hj)
 rw[Addr.add_lit] at this
 rw[←this]
 rw[show 0+i*3+j=0+(i*3+j) from by omega]
theorem own_base {w:World} {base g n cap:Nat} {e:TypeId} {cells:List Value} (h:w.ownsRow base e 3 (.slice (some ⟨g,0,none⟩) n cap) n cells):base<=g:=(h.lt g rfl).1
set_option maxHeartbeats 1000000 in
theorem agw (x:ay) (a1 a2 a3 a4:Value) (w:World) (h1:bf 3 48 RVar 0 w a1 x.ins) (h2:bf 3 48 RVar 0 w a2 x.outs) (h3:bf 3 48 RVar 0 w a3 x.vars) (hsum:x.ins.length+x.outs.length+x.vars.length<=1048576) :
  Calls Tryz.prog 62 #[.agg #[.string x.name,a1,a2,a3,a4]] w fun e w'=>∃v,e=.returned v∧bf 3 48 RVar 0 w' v (x.ins++x.outs++x.vars)∧Below w.heap.size w w':=by
 obtain⟨s,ins,outs,vars,eqs⟩:=x
 simp only at *
 have H1:=hide h1
 have H2:=hide h2
 have H3:=hide h3
 clear h1 h2 h3
 have P0:Below (w.heap.size+1) (w.alloc (.cells #[.string s,a1,a2,a3,a4] 42)) ((w.alloc (.cells #[.string s,a1,a2,a3,a4] 42)).alloc (.cells #[] 68)):=(Below.refl _ _).alloc (by simp) _
 have P0':Below w.heap.size w (w.alloc (.cells #[.string s,a1,a2,a3,a4] 42)):=(Below.refl _ _).alloc (Nat.le_refl _) _
 have Q0:Below w.heap.size w ((w.alloc (.cells #[.string s,a1,a2,a3,a4] 42)).alloc (.cells #[] 68)):=P0'.trans (P0.mono (Nat.le_succ _))
 have O0:((w.alloc (.cells #[.string s,a1,a2,a3,a4] 42)).alloc (.cells #[] 68)).ownsRow (w.heap.size+1) 68 3 (.slice (some ⟨w.heap.size+1,0,none⟩) 0 0) 0 []:=by
  have:=own_start (w.alloc (.cells #[.string s,a1,a2,a3,a4] 42)) (w.heap.size+1) (by simp) 68
  simpa using this
 have Oq:=hide P0
 have HQ0:=hide Q0
 have ace:=hide P0'
 have HO0:=hide O0
 clear P0 Q0 P0' O0
 go_enter Tryz.func62,Tryz.ntmps62
 go_wp2_with (at_builtin;go_must (refine Dq _ w (uh HQ0) rfl _ _ rfl (w.heap.size+1) (w.heap.size+1) 0 0 [] rfl (uh HO0) _ rfl ins (uh H1) (by omega) (by simp) ?_))
 intro g1 cap1 w1 a0q hown1 Xh hcs1
 have hsz1:=Xh.size
 simp only[World.size_alloc] at hsz1
 have B1:=Jl (uh Oq) Xh (by simp) (Nat.le_refl _)
 have Q1:Below w.heap.size w w1:=(uh ace).trans (B1.mono (Nat.le_succ _))
 have HB1:=hide B1
 have HQ1:=hide Q1
 have HO1:=hide hown1
 have Ak:=hide hcs1
 have k2:=ou (B:=0) B1 2
 have k3:=ou (B:=0) B1 3
 simp at k2 k3
 clear hown1 Xh hcs1 B1 Q1
 go_wp2_with (at_builtin;go_must (refine Dq _ w (uh HQ1) rfl _ _ rfl (w.heap.size+1) g1 _ cap1 _ rfl (uh HO1) _ rfl outs (uh H2) (by omega) (by omega) ?_))
 intro g2 cap2 w2 a0r hown2 Oi hcs2
 have hsz2:=Oi.size
 have B2:=Jl (uh HB1) Oi (by omega) (own_base (uh HO1))
 have Q2:Below w.heap.size w w2:=(uh ace).trans (B2.mono (Nat.le_succ _))
 have HB2:=hide B2
 have HQ2:=hide Q2
 have Ky:=hide hown2
 have HC2:=hide hcs2
 have k3:=ou (B:=0) B2 3
 simp at k3
 clear hown2 Oi hcs2 B2 Q2 k2
 go_wp2_with (at_builtin;go_must (refine Dq _ w (uh HQ2) rfl _ _ rfl (w.heap.size+1) g2 _ cap2 _ rfl (uh Ky) _ rfl vars (uh H3) (by omega) (by omega) ?_))
 intro g3 cap3 w3 a0s hown3 Oj hcs3
 have B3:=Jl (uh HB2) Oj (by omega) (own_base (uh Ky))
 have Q3:Below w.heap.size w w3:=(uh ace).trans (B3.mono (Nat.le_succ _))
 have D:=a0e (ys:=ins++outs++vars) hown3 (by
  rw[←List.append_assoc]
  exact(((uh Ak).append (uh HC2)).append hcs3).stays Q3) (by rw[List.length_append,List.length_append]) (by omega)
 have HD:=hide D
 have HQ3:=hide Q3
 clear D Q3 B3 hown3 Oj hcs3
 go_wp2
 go_ret
 exact⟨_,rfl,uh HD,uh HQ3⟩
def F8 (op:Int):Bool:=op == 21||op == 22
def dw (e:qg):List (List eu):=if e.call.size=0 then [e.code] else e.args
def Wq (emp:Bool) (code:List eu) (i:Nat):Bool:=(match code[i]? with|some t=>F8 t.op|none=>false)&&!(emp&&i+1 == code.length)
def yh (emp:Bool) (code:List eu):Nat->Nat
 | 0=>0
 | k+1=>yh emp code k+(if Wq emp code k then 1 else 0)
def zf (emp:Bool) (codes:List (List eu)):Nat->Nat
 | 0=>0
 | k+1=>zf emp codes k+(match codes[k]? with|some c=>yh emp c c.length|none=>0)
def yc (e:qg):Nat:=zf (decide (e.call.size=0)) (dw e) (dw e).length
def zq (codes:List (List eu)):Nat->Nat
 | 0=>0
 | k+1=>zq codes k+(match codes[k]? with|some c=>c.length|none=>0)
theorem Zj (emp:Bool) (code:List eu) (k:Nat):yh emp code k<=k:=by
 induction k with
 | zero=>exact Nat.le_refl _
 | succ k ih=>unfold yh;split<;>omega
theorem Ez (emp:Bool) (codes:List (List eu)) (k:Nat):zf emp codes k<=zq codes k:=by
 induction k with
 | zero=>exact Nat.le_refl _
 | succ k ih =>
  unfold zf zq
  cases codes[k]? with
  | none=>simpa using ih
  | some c=>have:=Zj emp c c.length;simp only;omega
theorem Ed (codes:List (List eu)) (B:Nat) (h:∀c,c∈codes->c.length<=B) (k:Nat):zq codes k<=k*B:=by
 induction k with
 | zero=>simp[zq]
 | succ k ih =>
  unfold zq
  rw[Nat.add_mul]
  cases hc:codes[k]? with
  | none=>simp only;omega
  | some c =>
   have:=h c (List.mem_of_getElem? hc)
   simp only
   omega
theorem Qg (op:Int) (w:World) :
  Calls Tryz.prog 41 #[.int .i64 op] w fun e w'=>e=.returned (.bool (F8 op))∧w'=w:=by
 cases h1:(op == 21)<;>cases h2:(op == 22)
 all_goals
  have e:F8 op=(op == 21||op == 22):=rfl
  rw[h1,h2] at e
  rw[e]
  clear e
  go_enter Tryz.func41,Tryz.ntmps41
  go_wp2
  go_ret
  exact⟨rfl,rfl⟩
set_option maxHeartbeats 400000 in
theorem Zk (x:qg) (a1 a2 a3:Value) (w:World) (h2:bf 3 32 jw 0 w a2 x.code) (h3:bf 1 24 yu 0 w a3 x.args) :
  Calls Tryz.prog 40 #[.agg #[a1,a2,.string x.call,a3]] w fun e w'=>∃v,e=.returned v∧bf 1 24 yu 0 w' v (dw x)∧Below w.heap.size w w':=by
 obtain⟨lhs,code,s,args⟩:=x
 simp only[dw] at *
 obtain⟨b2,c2,rfl⟩:=h2.shape
 obtain⟨b3,c3,rfl⟩:=h3.shape
 have H2:=hide h2
 have H3:=hide h3
 clear h2 h3
 have B0:=hide ((Below.refl w.heap.size w).alloc (Nat.le_refl _) (.cells #[a1,.slice b2 code.length c2,.string s,.slice b3 args.length c3] 48))
 by_cases g:s.size=0
 ·rw[if_pos g]
  have d4:=Aa s g
  have Ij:=xg s g
  have HO:=hide (aq6 45 ((uh H2).stays je (uh B0)))
  clear g
  go_enter Tryz.func40,Tryz.ntmps40
  go_wp2
  go_ret
  exact⟨_,rfl,by simpa using uh HO,(uh B0).trans ((Below.refl _ _).alloc (uh B0).size _)⟩
 ·rw[if_neg g]
  have d4:=Ae s g
  have Ij:=vk s g
  clear g
  go_enter Tryz.func40,Tryz.ntmps40
  go_wp2
  go_ret
  exact⟨_,rfl,(uh H3).stays lq (uh B0),uh B0⟩
set_option maxHeartbeats 2000000 in
theorem ad4 (x:qg) (a1 a2 a3:Value) (w:World) (h2:bf 3 32 jw 0 w a2 x.code) (h3:bf 1 24 yu 0 w a3 x.args) (hcl:∀c,c∈dw x->c.length<=3000) (hcn:(dw x).length<=500) :
  Calls Tryz.prog 69 #[.agg #[a1,a2,.string x.call,a3]] w (Ans (.int .i64 (yc x)) w):=by
 obtain⟨lhs,code,s,args⟩:=x
 simp only[yc] at *
 obtain⟨b2,c2,rfl⟩:=h2.shape
 obtain⟨b3,c3,rfl⟩:=h3.shape
 have H2:=hide h2
 have H3:=hide h3
 clear h2 h3
 have B0:=hide ((Below.refl w.heap.size w).alloc (Nat.le_refl _) (.cells #[a1,.slice b2 code.length c2,.string s,.slice b3 args.length c3] 48))
 by_cases g:s.size=0
 ·have e:decide (s.size=0)=true:=by simpa using g
  rw[e]
  have d4:=Aa s g
  have Ij:=xg s g
  clear g e
  go_enter Tryz.func69,Tryz.ntmps69
  go_wp2_with fail
  refine(Zk ⟨lhs,code,s,args⟩ _ _ _ _ ((uh H2).stays je (uh B0)) ((uh H3).stays lq (uh B0))).mono ?_
  rintro e w1 ⟨vc,rfl,Xg,hb1⟩
  have Gq:=hide (ou (B:=0) (show Below (w.heap.size+1) _ w1 by simpa using hb1) 2)
  have au4:Hid (Below (w.heap.size+1) (w.alloc (.cells #[a1,.slice b2 code.length c2,.string s,.slice b3 args.length c3] 48)) w1):=by
   show Below (w.heap.size+1) _ w1
   simpa using hb1
  have B1:Hid (Below w.heap.size w w1):=(uh B0).trans (hb1.mono (uh B0).size)
  generalize dw ⟨lhs,code,s,args⟩=iy at *
  obtain⟨bv,cv,rfl⟩:=Xg.shape
  obtain⟨_,_,hvv,_,hvn,Gw⟩:=Xg
  simp only[Value.slice.injEq] at hvv
  obtain⟨rfl,_,rfl⟩:=hvv
  unfold Len at hvn
  have Jf:=hide Gw
  clear Gw hb1
  go_wp2
  go_loopg [3,11] iy.length (fun g n i wr=>∃(m:Nat),m<=iy.length∧g=iy.length-m∧i=.int .i64 m∧n=.int .i64 (zf true iy m)∧Below w1.heap.size w1 wr)
  case atStart=>exact⟨0,Nat.zero_le _,by omega,rfl,rfl,Below.refl _ _⟩
  case round =>
   obtain⟨m,hm,hgm,rfl,rfl,Hg⟩:=hrel
   rename World=>wv
   have Hy:=hide hgm
   have Az:=hide Hg
   have BV:Hid (Below w.heap.size w wv):=(uh B1).trans (Hg.mono (uh B1).size)
   clear hgm Hg
   by_cases Aj:m<iy.length
   ·obtain⟨ba,oa,Le,jr,_,hba,Gx,hca,Oy⟩:=uh Jf m Aj
    subst jr
    have hca:∀j (hj:j<Le.length),wv.cell? ⟨ba,oa+m*1+j,none⟩=some Le[j]:=fun j hj=>by rw[(uh Az).cell (p:=⟨ba,_,none⟩) hba];exact hca j hj
    have Oy:=lq.stays _ _ _ _ _ (uh Az) Oy
    obtain⟨va,rfl,hE⟩:=Oy
    obtain⟨be,ce,rfl⟩:=hE.shape
    have r0:=hca 0 (by simp)
    simp only[Nat.mul_one,Nat.add_zero,List.getElem_cons_zero,List.getElem_cons_succ] at r0
    obtain⟨_,_,I8,_,hne,hex⟩:=hE
    simp only[Value.slice.injEq] at I8
    obtain⟨rfl,_,rfl⟩:=I8
    unfold Len at hne
    have HEX:=hide hex
    have SM:zf true iy (m+1)=zf true iy m+yh true iy[m] iy[m].length:=by
     rw[zf,List.getElem?_eq_getElem Aj]
    have adt:=Ez true iy m
    have adu:=Ed iy 3000 hcl m
    have hle:=hcl iy[m] (List.getElem_mem Aj)
    have Uw:=hide SM
    clear SM hex hca Gx
    generalize iy[m]=el at *
    generalize zf true iy m=n0 at *
    have hn0:n0<=3000*iy.length:=by
     have:m*3000<=iy.length*3000:=Nat.mul_le_mul_right _ hm
     omega
    clear adt adu
    go_wp2
    go_loopg [3,17] el.length (fun g n i wr=>∃(q:Nat),q<=el.length∧g=el.length-q∧i=.int .i64 q∧n=.int .i64 ((n0+yh true el q:Nat):Int)∧Below wv.heap.size wv wr)
    case atStart=>exact⟨0,Nat.zero_le _,by omega,rfl,rfl,Below.refl _ _⟩
    case round =>
     obtain⟨q,hq,hg3,rfl,rfl,Ci⟩:=hrel
     have Jg:=hide hg3
     have HB3:=hide Ci
     have hib:=Zj true el q
     clear hg3 Ci
     by_cases hlt3:q<el.length
     ·obtain⟨b,o,cs,jr,_,hb,hcs,hc,hR⟩:=uh HEX q hlt3
      subst jr
      have hc:∀j (hj:j<cs.length),wr.cell? ⟨b,o+q*3+j,none⟩=some cs[j]:=fun j hj=>by rw[(uh HB3).cell (p:=⟨b,_,none⟩) hb];exact hc j hj
      obtain⟨rfl,hsn,ho,hvl⟩:=hR
      have e0:=hc 0 (by simp)
      have e1:=hc 1 (by simp)
      have e2:=hc 2 (by simp)
      simp only[Nat.mul_one,Nat.add_zero,List.getElem_cons_zero,List.getElem_cons_succ] at e0 e1 e2
      have a3n:w1.heap.size<=wr.heap.size:=Nat.le_trans (uh Az).size (uh HB3).size
      have a3o:w.heap.size+1<=w1.heap.size:=by have:=(uh au4).size;simpa using this
      have k2:wr.cell? ⟨w.heap.size,2,none⟩=some (.string s):=by
       rw[(uh HB3).cell (p:=⟨w.heap.size,2,none⟩) (show w.heap.size<wv.heap.size by have:=(uh Az).size;omega),(uh Az).cell (p:=⟨w.heap.size,2,none⟩) (show w.heap.size<w1.heap.size by omega)]
       exact(uh Gq).trans rfl
      have hwr:w.heap.size<wr.heap.size:=by omega
      clear hc hcs hsn ho hvl
      cases hf:F8 el[q].op
      ·have S:yh true el (q+1)=yh true el q:=by
        rw[yh,Wq,List.getElem?_eq_getElem hlt3]
        simp[hf]
       have HS:=hide S
       clear S
       go_wp2_with fail
       refine(Qg _ _).mono ?_
       rintro e w4 ⟨rfl,rfl⟩
       rw[hf]
       go_wp2
       go_roundg (el.length-(q+1))
       case measure=>have:=uh Jg;omega
       case rel=>exact⟨q+1,by omega,rfl,by go_num,int_eq (by have:=uh HS;omega),(uh HB3).trans ((Below.refl _ _).alloc (uh HB3).size _)⟩
      ·by_cases hlast:q+1=el.length
       ·have dl:((q:Int) == (el.length:Int)-1)=true:=by rw[beq_iff_eq];omega
        have S:yh true el (q+1)=yh true el q:=by
         rw[yh,Wq,List.getElem?_eq_getElem hlt3]
         simp[hf,hlast]
        have HS:=hide S
        clear S hlast
        go_wp2_with fail
        refine(Qg _ _).mono ?_
        rintro e w4 ⟨rfl,rfl⟩
        rw[hf]
        go_wp2
        go_roundg (el.length-(q+1))
        case measure=>have:=uh Jg;omega
        case rel=>exact⟨q+1,by omega,rfl,by go_num,int_eq (by have:=uh HS;omega),(uh HB3).trans ((Below.refl _ _).alloc (uh HB3).size _)⟩
       ·have dl:((q:Int) == (el.length:Int)-1)=false:=by rw[beq_eq_false_iff_ne];omega
        have S:yh true el (q+1)=yh true el q+1:=by
         rw[yh,Wq,List.getElem?_eq_getElem hlt3]
         simp[hf,hlast]
        have HS:=hide S
        clear S hlast
        go_wp2_with fail
        refine(Qg _ _).mono ?_
        rintro e w4 ⟨rfl,rfl⟩
        rw[hf]
        go_wp2
        go_roundg (el.length-(q+1))
        case measure=>have:=uh Jg;omega
        case rel=>exact⟨q+1,by omega,rfl,by go_num,int_eq (by have:=uh HS;omega),(uh HB3).trans ((Below.refl _ _).alloc (uh HB3).size _)⟩
     ·have e:q=el.length:=by omega
      subst e
      have HE:Hid (n0+yh true el el.length=zf true iy (m+1)):=(uh Uw).symm
      go_wp2
      go_roundg (iy.length-(m+1))
      case measure=>have:=uh Hy;omega
      case rel=>exact⟨m+1,by omega,rfl,by go_num,int_eq (by have:=uh HE;omega),(uh Az).trans ((uh HB3).mono (uh Az).size)⟩
   ·have e:m=iy.length:=by omega
    subst e
    go_wp2
    go_ret
    exact⟨rfl,uh BV⟩
 ·have e:decide (s.size=0)=false:=by simpa using g
  rw[e]
  have d4:=Ae s g
  have Ij:=vk s g
  clear g e
  go_enter Tryz.func69,Tryz.ntmps69
  go_wp2_with fail
  refine(Zk ⟨lhs,code,s,args⟩ _ _ _ _ ((uh H2).stays je (uh B0)) ((uh H3).stays lq (uh B0))).mono ?_
  rintro e w1 ⟨vc,rfl,Xg,hb1⟩
  have Gq:=hide (ou (B:=0) (show Below (w.heap.size+1) _ w1 by simpa using hb1) 2)
  have au4:Hid (Below (w.heap.size+1) (w.alloc (.cells #[a1,.slice b2 code.length c2,.string s,.slice b3 args.length c3] 48)) w1):=by
   show Below (w.heap.size+1) _ w1
   simpa using hb1
  have B1:Hid (Below w.heap.size w w1):=(uh B0).trans (hb1.mono (uh B0).size)
  generalize dw ⟨lhs,code,s,args⟩=iy at *
  obtain⟨bv,cv,rfl⟩:=Xg.shape
  obtain⟨_,_,hvv,_,hvn,Gw⟩:=Xg
  simp only[Value.slice.injEq] at hvv
  obtain⟨rfl,_,rfl⟩:=hvv
  unfold Len at hvn
  have Jf:=hide Gw
  clear Gw hb1
  go_wp2
  go_loopg [3,11] iy.length (fun g n i wr=>∃(m:Nat),m<=iy.length∧g=iy.length-m∧i=.int .i64 m∧n=.int .i64 (zf false iy m)∧Below w1.heap.size w1 wr)
  case atStart=>exact⟨0,Nat.zero_le _,by omega,rfl,rfl,Below.refl _ _⟩
  case round =>
   obtain⟨m,hm,hgm,rfl,rfl,Hg⟩:=hrel
   rename World=>wv
   have Hy:=hide hgm
   have Az:=hide Hg
   have BV:Hid (Below w.heap.size w wv):=(uh B1).trans (Hg.mono (uh B1).size)
   clear hgm Hg
   by_cases Aj:m<iy.length
   ·obtain⟨ba,oa,Le,jr,_,hba,Gx,hca,Oy⟩:=uh Jf m Aj
    subst jr
    have hca:∀j (hj:j<Le.length),wv.cell? ⟨ba,oa+m*1+j,none⟩=some Le[j]:=fun j hj=>by rw[(uh Az).cell (p:=⟨ba,_,none⟩) hba];exact hca j hj
    have Oy:=lq.stays _ _ _ _ _ (uh Az) Oy
    obtain⟨va,rfl,hE⟩:=Oy
    obtain⟨be,ce,rfl⟩:=hE.shape
    have r0:=hca 0 (by simp)
    simp only[Nat.mul_one,Nat.add_zero,List.getElem_cons_zero,List.getElem_cons_succ] at r0
    obtain⟨_,_,I8,_,hne,hex⟩:=hE
    simp only[Value.slice.injEq] at I8
    obtain⟨rfl,_,rfl⟩:=I8
    unfold Len at hne
    have HEX:=hide hex
    have SM:zf false iy (m+1)=zf false iy m+yh false iy[m] iy[m].length:=by
     rw[zf,List.getElem?_eq_getElem Aj]
    have adt:=Ez false iy m
    have adu:=Ed iy 3000 hcl m
    have hle:=hcl iy[m] (List.getElem_mem Aj)
    have Uw:=hide SM
    clear SM hex hca Gx
    generalize iy[m]=el at *
    generalize zf false iy m=n0 at *
    have hn0:n0<=3000*iy.length:=by
     have:m*3000<=iy.length*3000:=Nat.mul_le_mul_right _ hm
     omega
    clear adt adu
    go_wp2
    go_loopg [3,17] el.length (fun g n i wr=>∃(q:Nat),q<=el.length∧g=el.length-q∧i=.int .i64 q∧n=.int .i64 ((n0+yh false el q:Nat):Int)∧Below wv.heap.size wv wr)
    case atStart=>exact⟨0,Nat.zero_le _,by omega,rfl,rfl,Below.refl _ _⟩
    case round =>
     obtain⟨q,hq,hg3,rfl,rfl,Ci⟩:=hrel
     have Jg:=hide hg3
     have HB3:=hide Ci
     have hib:=Zj false el q
     clear hg3 Ci
     by_cases hlt3:q<el.length
     ·obtain⟨b,o,cs,jr,_,hb,hcs,hc,hR⟩:=uh HEX q hlt3
      subst jr
      have hc:∀j (hj:j<cs.length),wr.cell? ⟨b,o+q*3+j,none⟩=some cs[j]:=fun j hj=>by rw[(uh HB3).cell (p:=⟨b,_,none⟩) hb];exact hc j hj
      obtain⟨rfl,hsn,ho,hvl⟩:=hR
      have e0:=hc 0 (by simp)
      have e1:=hc 1 (by simp)
      have e2:=hc 2 (by simp)
      simp only[Nat.mul_one,Nat.add_zero,List.getElem_cons_zero,List.getElem_cons_succ] at e0 e1 e2
      have a3n:w1.heap.size<=wr.heap.size:=Nat.le_trans (uh Az).size (uh HB3).size
      have a3o:w.heap.size+1<=w1.heap.size:=by have:=(uh au4).size;simpa using this
      have k2:wr.cell? ⟨w.heap.size,2,none⟩=some (.string s):=by
       rw[(uh HB3).cell (p:=⟨w.heap.size,2,none⟩) (show w.heap.size<wv.heap.size by have:=(uh Az).size;omega),(uh Az).cell (p:=⟨w.heap.size,2,none⟩) (show w.heap.size<w1.heap.size by omega)]
       exact(uh Gq).trans rfl
      have hwr:w.heap.size<wr.heap.size:=by omega
      clear hc hcs hsn ho hvl
      cases hf:F8 el[q].op
      ·have S:yh false el (q+1)=yh false el q:=by
        rw[yh,Wq,List.getElem?_eq_getElem hlt3]
        simp[hf]
       have HS:=hide S
       clear S
       go_wp2_with fail
       refine(Qg _ _).mono ?_
       rintro e w4 ⟨rfl,rfl⟩
       rw[hf]
       go_wp2
       go_roundg (el.length-(q+1))
       case measure=>have:=uh Jg;omega
       case rel=>exact⟨q+1,by omega,rfl,by go_num,int_eq (by have:=uh HS;omega),(uh HB3).trans ((Below.refl _ _).alloc (uh HB3).size _)⟩
      ·have S:yh false el (q+1)=yh false el q+1:=by
        rw[yh,Wq,List.getElem?_eq_getElem hlt3]
        simp[hf]
       have HS:=hide S
       clear S
       go_wp2_with fail
       refine(Qg _ _).mono ?_
       rintro e w4 ⟨rfl,rfl⟩
       rw[hf]
       go_wp2
       go_roundg (el.length-(q+1))
       case measure=>have:=uh Jg;omega
       case rel=>exact⟨q+1,by omega,rfl,by go_num,int_eq (by have:=uh HS;omega),(uh HB3).trans ((Below.refl _ _).alloc (uh HB3).size _)⟩
     ·have e:q=el.length:=by omega
      subst e
      have HE:Hid (n0+yh false el el.length=zf false iy (m+1)):=(uh Uw).symm
      go_wp2
      go_roundg (iy.length-(m+1))
      case measure=>have:=uh Hy;omega
      case rel=>exact⟨m+1,by omega,rfl,by go_num,int_eq (by have:=uh HE;omega),(uh Az).trans ((uh HB3).mono (uh Az).size)⟩
   ·have e:m=iy.length:=by omega
    subst e
    go_wp2
    go_ret
    exact⟨rfl,uh BV⟩
def dh (w:World) (g:Nat) (e:TypeId) (cs:Array Value):Prop:=w.heap[g]?=some (.cells cs e (0,0))
theorem dh.lt {w:World} {g:Nat} {e:TypeId} {cs:Array Value} (h:dh w g e cs):g<w.heap.size:=(Array.getElem?_eq_some_iff.1 h).1
theorem dh.cell {w:World} {g:Nat} {e:TypeId} {cs:Array Value} (h:dh w g e cs) {i:Nat} {v:Value} (hi:cs[i]?=some v):w.cell? ⟨g,i,none⟩=some v:=by
 unfold dh at h
 simp[World.cell?,h,hi]
theorem dh.free {w:World} {g:Nat} {e:TypeId} {cs:Array Value} (h:dh w g e cs) (i:Nat):w.frozen? ⟨g,i,none⟩=false:=by
 unfold dh at h
 simp[World.frozen?,h]
theorem dh.below {w w':World} {g B:Nat} {e:TypeId} {cs:Array Value} (h:dh w g e cs) (hb:Below B w w') (hg:g<B):dh w' g e cs:=(hb.block g hg).trans h
theorem dh.set {w:World} {g:Nat} {e:TypeId} {cs:Array Value} (h:dh w g e cs) (i:Nat) (v:Value):dh (w.setCell ⟨g,i,none⟩ v) g e (cs.setIfInBounds i v):=by
 unfold dh at *
 simp only[World.setCell,Array.getElem?_modify,if_true,h,Option.map_some]
 simp
theorem wpList_make_row {P:Program} (w:World) {ops:Array Oper} {rest:List Oper} {o:Oper} {a:Act} {Q:Exit->Act->World->Prop}
  (hg:o.guard=none) (l c:Operand) (t:TypeId) (hop:o.op=Op.makeSlice t l c)
  (e:TypeId) (z:Value) (by':Nat) (h1:P.underlying t=some (.slice e)) (h2:(P.info? e).map (fun i=>(i.zero,i.size,i.bytes))=some (some z,1,by')) (h3:by'<=100)
  (L:Int) (n:Nat) (hl:a.eval l=.int .i64 L) (hc:a.eval c=.int .i64 L) (hL:L=(n:Int)) (hn:n<=1000000)
  (hK:∀w' cs,dh w' w.heap.size e cs->cs.size=n->Below w.heap.size w w'->wpList P ops Q rest (a.put o.dst (.slice (some ⟨w.heap.size,0,none⟩) n n)) w') :
  wpList P ops Q (o::rest) a w:=by
 refine wpList_plain hg fun K hK'=>?_
 obtain⟨i,hi,hz,hs,hb⟩:=info_parts h2
 have hb':(i.bytes:Int)*(n:Int)<=281474976710656:=by
  have h:i.bytes*n<=100*1000000:=Nat.mul_le_mul (by omega) hn
  have h':((i.bytes*n:Nat):Int)<=281474976710656:=by omega
  rwa[Int.natCast_mul] at h'
 have hr:=run_make (P:=P) w t e i z h1 hi hz .i64 .i64 n n (by omega) (Int.le_refl _) hb' (by omega)
 simp only[Int.toNat_natCast] at hr
 subst hL
 unfold Oper.wp
 simp[execOp,hop,hl,hc,hr,Result.andThen]
 refine hK' _ _ (hK _ (madeCells z.cells (n*i.size)) ?_ ?_ ((Below.refl _ _).alloc (Nat.le_refl _) _))
 ·show (w.heap.push _)[w.heap.size]?=_
  rw[Array.getElem?_push_size]
 ·rw[size_madeCells,hs,Nat.mul_one]
theorem jd (w:World) (cs:Array Value) (e:TypeId):dh (w.alloc (.cells cs e)) w.heap.size e cs:=by
 show (w.heap.push _)[w.heap.size]?=_
 rw[Array.getElem?_push_size]
theorem dh.ahm {w:World} {g:Nat} {e:TypeId} {a b c x y z:Value} (h:dh w g e #[a,b,c]):dh (((w.setCell ⟨g,0,none⟩ x).setCell ⟨g,1,none⟩ y).setCell ⟨g,2,none⟩ z) g e #[x,y,z]:=by
 have:=((h.set 0 x).set 1 y).set 2 z
 simpa using this
end Go.Proofs.YtflcnhfakcgkeaaGreat
