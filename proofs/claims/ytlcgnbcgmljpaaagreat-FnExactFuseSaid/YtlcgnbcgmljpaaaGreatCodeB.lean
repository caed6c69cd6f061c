import Derived.Test.YtlcgnbcgmljpaaaGreatEvery
import Derived.Test.YtlcgnbcgmljpaaaGreatData
import Derived.Test.YtlcgnbcgmljpaaaGreatProg
import Derived.WalkLawsBesides
import Derived.Deep.AppendSrc
import Derived.OwnWalk
import Derived.Deep.RegionWith
import Derived.RegionTactic
namespace Go.Proofs.YtlcgnbcgmljpaaaGreat
open Go.RowKit
set_option linter.unusedSimpArgs false
set_option linter.unusedVariables false
def Ym (most:Int) (code:List iw):Bool:=decide (1<=code.length∧(code.length:Int)<=most)&&V8 code == 0&&code.all O5
set_option maxHeartbeats 400000 in
theorem ah2 (most:Int) (xs:List iw) (v:Value) (w:World) (hv:bf 3 32 tu 0 w v xs) :
  Calls Tryz.prog 100 #[v,.int .i64 most] w (Ans (.bool (Ym most xs)) w):=by
 have HV:=hide hv
 obtain⟨a,cap,rfl,_,hn,hx⟩:=hv
 have HX:=hide hx
 clear hx
 unfold Len at hn
 by_cases h1:xs.length<1
 ·have d1:decide ((xs.length:Int)<1)=true:=by simp;omega
  have e:Ym most xs=false:=by
   have:decide (1<=xs.length∧(xs.length:Int)<=most)=false:=by rw[decide_eq_false_iff_not];omega
   simp only[Ym,this,Bool.false_and]
  rw[e]
  clear e
  go_enter Tryz.func100,Tryz.ntmps100
  go_wp2
  go_ret
  exact⟨rfl,Below.refl _ _⟩
 have d1:decide ((xs.length:Int)<1)=false:=by simp;omega
 by_cases h2:most<(xs.length:Int)
 ·have d2:decide (most<(xs.length:Int))=true:=by simp;omega
  have e:Ym most xs=false:=by
   have:decide (1<=xs.length∧(xs.length:Int)<=most)=false:=by rw[decide_eq_false_iff_not];omega
   simp only[Ym,this,Bool.false_and]
  rw[e]
  clear e
  go_enter Tryz.func100,Tryz.ntmps100
  go_wp2
  go_ret
  exact⟨rfl,Below.refl _ _⟩
 have d2:decide (most<(xs.length:Int))=false:=by simp;omega
 have hlen:decide (1<=xs.length∧(xs.length:Int)<=most)=true:=by simp;omega
 cases h3:(V8 xs == 0)
 ·have e:Ym most xs=false:=by simp only[Ym,h3];simp
  rw[e]
  clear e
  have d3:(V8 xs != 0)=true:=by rw[bne,h3];rfl
  have HBG:=hide (ad4 xs _ w (uh HV))
  generalize V8 xs=bg at *
  clear hlen
  go_enter Tryz.func100,Tryz.ntmps100
  go_wp2_with fail
  refine(uh HBG).mono ?_
  rintro e w1 ⟨rfl,rfl⟩
  go_wp2
  go_ret
  exact⟨rfl,Below.refl _ _⟩
 ·have e:Ym most xs=xs.all O5:=by simp only[Ym,h3,hlen];simp
  rw[e]
  clear e
  have d3:(V8 xs != 0)=false:=by rw[bne,h3];rfl
  have HBG:=hide (ad4 xs _ w (uh HV))
  generalize V8 xs=bg at *
  clear hlen
  go_enter Tryz.func100,Tryz.ntmps100
  go_wp2_with fail
  refine(uh HBG).mono ?_
  rintro e w ⟨rfl,rfl⟩
  go_wp2
  go_loopg [25] xs.length (fun g i wr=>∃(k:Nat),k<=xs.length∧g=xs.length-k∧i=.int .i64 k∧Below w.heap.size w wr∧∀j (h:j<xs.length),j<k->O5 xs[j]=true)
  case atStart=>exact⟨0,Nat.zero_le _,by omega,rfl,Below.refl _ _,fun j _ h=>absurd h (Nat.not_lt_zero _)⟩
  case round =>
   obtain⟨k,hk,hg,rfl,hbl,hall⟩:=hrel
   have HG:=hide hg
   have HA:=hide hall
   clear hg hall
   by_cases hlt:k<xs.length
   ·obtain⟨b,o,cs,rfl,_,hb,hcs,hc,hR⟩:=uh HX k hlt
    have hc:∀j (hj:j<cs.length),wr.cell? ⟨b,o+k*3+j,none⟩=some cs[j]:=fun j hj=>by rw[hbl.cell (p:=⟨b,_,none⟩) hb];exact hc j hj
    obtain⟨rfl,hsn,ho,hvl⟩:=hR
    have c0:=hc 0 (by simp)
    have c1:=hc 1 (by simp)
    have c2:=hc 2 (by simp)
    simp only[Nat.mul_one,Nat.add_zero,List.getElem_cons_zero,List.getElem_cons_succ] at c0 c1 c2
    have HC:=hide (fun w=>akl xs[k] w hsn)
    clear hc hcs hsn ho hvl
    cases hp:O5 xs[k]
    ·have F:xs.all O5=false:=by
      rw[List.all_eq_false]
      exact⟨xs[k],List.getElem_mem hlt,by rw[hp];decide⟩
     have HF:=hide F
     clear F
     go_wp2_with fail
     refine(uh HC _).mono ?_
     rintro e w1 ⟨rfl,hb1⟩
     rw[hp]
     go_wp2
     go_ret
     exact⟨oq (uh HF).symm,hbl.trans (((Below.refl _ _).alloc hbl.size _).trans (hb1.mono (Nat.le_trans hbl.size (by simp))))⟩
    ·have A':∀j (h:j<xs.length),j<k+1->O5 xs[j]=true:=by
      intro j h h1
      by_cases e:j=k
      ·subst e;exact hp
      ·exact uh HA j h (by omega)
     have HA':=hide A'
     clear A'
     go_wp2_with fail
     refine(uh HC _).mono ?_
     rintro e w1 ⟨rfl,hb1⟩
     rw[hp]
     go_wp2
     go_roundg (xs.length-(k+1))
     case measure=>have:=uh HG;omega
     case rel=>exact⟨k+1,by omega,rfl,by go_num,hbl.trans (((Below.refl _ _).alloc hbl.size _).trans (hb1.mono (Nat.le_trans hbl.size (by simp)))),uh HA'⟩
   ·have e:k=xs.length:=by omega
    have T:xs.all O5=true:=by
     rw[List.all_eq_true]
     intro x hx
     obtain⟨j,hj,rfl⟩:=List.getElem_of_mem hx
     exact uh HA j hj (by omega)
    have HT:=hide T
    clear T
    go_wp2
    go_ret
    exact⟨oq (uh HT).symm,hbl⟩
def fw:List iw->Int->Option Int
 | [],r=>some r
 | t::ts,r=>if r<Kq t.op then none else fw ts (r+(1-Kq t.op))
theorem aph (xs:List iw) (t:iw) (r:Int):fw (xs++[t]) r=(fw xs r).bind (fun q=>if q<Kq t.op then none else some (q+(1-Kq t.op))):=by
 induction xs generalizing r with
 | nil=>simp[fw]
 | cons x xs ih =>
  simp only[List.cons_append,fw]
  split
  ·rfl
  ·exact ih _
theorem a1s (rev:List iw) (n:Nat):bk rev n=some 0↔(∀t,t∈rev->0<=Kq t.op)∧fw rev.reverse 0=some (n:Int):=by
 induction rev generalizing n with
 | nil =>
  cases n with
  | zero=>simp[bk,fw]
  | succ n =>
   simp[bk,fw]
   omega
 | cons t ts ih =>
  rw[List.reverse_cons,aph]
  cases n with
  | zero =>
   rw[alh]
   constructor
   ·intro h;simp at h
   ·rintro⟨h1,h2⟩
    cases hq:fw ts.reverse 0 with
    | none=>rw[hq] at h2;simp at h2
    | some q =>
     rw[hq] at h2
     simp at h2
     omega
  | succ n =>
   simp only[bk]
   by_cases hneg:Kq t.op<0
   ·rw[if_pos hneg]
    constructor
    ·intro h;cases h
    ·rintro⟨h1,_⟩
     have:=h1 t (List.mem_cons_self ..)
     omega
   ·rw[if_neg hneg,ih]
    constructor
    ·rintro⟨h1,h2⟩
     refine⟨fun x hx=>?_,?_⟩
     ·rcases List.mem_cons.1 hx with rfl|hx
      ·omega
      ·exact h1 x hx
     ·rw[h2]
      simp
      omega
    ·rintro⟨h1,h2⟩
     refine⟨fun x hx=>h1 x (List.mem_cons_of_mem _ hx),?_⟩
     cases hq:fw ts.reverse 0 with
     | none=>rw[hq] at h2;simp at h2
     | some q =>
      rw[hq] at h2
      simp at h2
      rw[Option.some.injEq]
      omega
theorem avn (xs:List iw) (r:Int) (h:∀t,t∈xs->Xt t.op=Kq t.op):wk xs r=true↔fw xs r=some 1:=by
 induction xs generalizing r with
 | nil =>
  simp only[wk,fw]
  simp
 | cons t ts ih =>
  simp only[wk,fw]
  rw[h t (List.mem_cons_self ..)]
  by_cases hneg:r<Kq t.op
  ·rw[if_pos hneg,if_pos hneg];simp
  ·rw[if_neg hneg,if_neg hneg]
   exact ih _ (fun x hx=>h x (List.mem_cons_of_mem _ hx))
theorem avo (op:Int) (h:0<=Kq op):Xt op=Kq op:=by
 unfold Kq at *
 unfold Xt
 by_cases h1:(1<=op∧op<=3)∨op=25
 ·rw[if_pos h1,if_pos (by omega)]
 ·rw[if_neg h1] at h
  rw[if_neg h1,if_neg (by omega)]
  by_cases h2:op=4∨op=5∨op=21∨op=22∨op=23
  ·rw[if_pos h2,if_pos h2]
  ·rw[if_neg h2] at h
   rw[if_neg h2,if_neg h2]
   by_cases h3:(6<=op∧op<=19)∨op=24
   ·rw[if_pos h3,if_neg (by omega)]
   ·rw[if_neg h3] at h
    rw[if_neg h3]
    by_cases h4:op=20
    ·rw[if_pos h4,if_pos h4]
    ·rw[if_neg h4] at h
     omega
theorem apj (op:Int):0<=Kq op↔1<=op∧op<=25:=by
 unfold Kq
 by_cases h1:(1<=op∧op<=3)∨op=25
 ·rw[if_pos h1];omega
 ·rw[if_neg h1]
  by_cases h2:op=4∨op=5∨op=21∨op=22∨op=23
  ·rw[if_pos h2];omega
  ·rw[if_neg h2]
   by_cases h3:(6<=op∧op<=19)∨op=24
   ·rw[if_pos h3];omega
   ·rw[if_neg h3]
    by_cases h4:op=20
    ·rw[if_pos h4];omega
    ·rw[if_neg h4];omega
theorem awt (xs:List iw):(V8 xs == 0)=true↔bk xs.reverse 1=some 0:=by
 unfold V8
 rw[beq_iff_eq]
 cases h:bk xs.reverse 1 with
 | none=>simp
 | some m=>simp
theorem apk (t:iw):itB t=true↔(1<=t.op∧t.op<=24)∧rgB t=true∧Xu t=true:=by
 simp[itB,and_assoc]
theorem ali (t:iw):O5 t=true↔Xu t=true∧(t.op=25∨rgB t=true):=by
 simp[O5]
def zk (w:World) (base g cap:Nat) (xs:List Int):Prop:=w.ownsRow base 3 1 (.slice (some ⟨g,0,none⟩) xs.length cap) xs.length (xs.map (Value.int .i64))
theorem zk.below {w w':World} {base g cap:Nat} {xs:List Int} (h:zk w base g cap xs) (hb:Below w.heap.size w w'):zk w' base g cap xs:=by
 have hlt:=(World.ownsRow.lt h g rfl).2
 obtain⟨h1,h2⟩:=h
 refine⟨h1,?_⟩
 rcases h2 with h2|⟨g',cap',cur,hv,hg,hh,r⟩
 ·exact Or.inl h2
 ·simp only[Value.slice.injEq,Option.some.injEq,Addr.mk.injEq] at hv
  obtain⟨⟨rfl,_⟩,_,rfl⟩:=hv
  exact Or.inr ⟨g,cap,cur,rfl,hg,(hb.block g hlt).trans hh,r⟩
theorem zk.cell {w:World} {base g cap:Nat} {xs:List Int} (h:zk w base g cap xs) (i:Nat) (hi:i<xs.length):w.cell? ⟨g,i,none⟩=some ((Value.int .i64) xs[i]):=by
 have:=World.ownsRow.cells h (g:=g) rfl i ((Value.int .i64) xs[i]) (by simp[hi])
 rw[Addr.add_lit,Nat.zero_add] at this
 exact this
theorem zk.lt {w:World} {base g cap:Nat} {xs:List Int} (h:zk w base g cap xs):g<w.heap.size:=(World.ownsRow.lt h g rfl).2
theorem zk.base {w:World} {base g cap:Nat} {xs:List Int} (h:zk w base g cap xs):base<=g:=(World.ownsRow.lt h g rfl).1
theorem zk.start (w:World) (base:Nat) (hb:base<=w.heap.size):zk (w.alloc (.cells #[] 3)) base w.heap.size 0 [] :=
 ⟨rfl,Or.inr ⟨_,_,#[],rfl,hb,Deep.blk_alloc_new _ _,Nat.le_refl _,Nat.zero_le _,rfl,rfl⟩⟩
theorem zk.at {w:World} {base g cap:Nat} {xs:List Int} (h:zk w base g cap xs) (hR:∀x,x∈xs->yu 0 w [(Value.int .i64) x] x) (hn:xs.length*8<=140737488355328):bf 1 8 yu 0 w (.slice (some ⟨g,0,none⟩) xs.length cap) xs:=by
 have hcap:xs.length<=cap:=by
  obtain⟨_,hh⟩:=h
  rcases hh with ⟨hh,_⟩|⟨g1,cap1,cur,hv,_,_,h2,_⟩
  ·cases hh
  ·simp only[Value.slice.injEq] at hv
   obtain⟨_,_,rfl⟩:=hv
   exact h2
 refine⟨_,cap,rfl,⟨hn,hcap⟩,by unfold Len;omega,fun i hi=>⟨g,0,[(Value.int .i64) xs[i]],rfl,Nat.zero_le _,h.lt,rfl,fun j hj=>?_,hR _ (List.getElem_mem hi)⟩⟩
 have hj0:j=0:=by simpa using hj
 subst hj0
 simp only[Nat.zero_add,Nat.mul_one,Nat.add_zero,List.getElem_cons_zero]
 exact h.cell i hi
theorem ah3:(Tryz.prog.info? 3).map (fun i=>(i.zero,i.size,i.bytes))=some (some (.int .i64 0),1,8):=by kernel_rfl
theorem I8 (w:World) {ops:Array Oper} {rest:List Oper} {o:Oper} {a:Act} {Q:Exit->Act->World->Prop} (hgd:o.guard=none) (s x:Operand)
  (ho:o.op=.call { callee:=.builtin .append,args:=#[s,x],argTypes:=#[41,41] })
  (base g cap:Nat) (xs:List Int) (hs:a.eval s=.slice (some ⟨g,0,none⟩) xs.length cap) (hown:zk w base g cap xs)
  (eb:Nat) (y:Int) (hx:a.eval x=.slice (some ⟨eb,0,none⟩) 1 1) (hy:w.cell? ⟨eb,0,none⟩=some ((Value.int .i64) y)) (hb:(xs.length+1)*8<=140737488355328) (hbase:base<=w.heap.size)
  (h:∀g' cap' w',zk w' base g' cap' (xs++[y])->w.grownBy w' (some g)->wpList Tryz.prog ops Q rest (a.put o.dst (.slice (some ⟨g',0,none⟩) (xs.length+1) cap')) w'):wpList Tryz.prog ops Q (o::rest) a w:=by
 obtain⟨i,hi,hz0,hz1,hz2⟩:=info_parts ah3
 refine wpList_append_own w hgd s x 41 ho base 3 i _ 1 8 Tryz.underlying41 hi hz0 hz1 hz2 rfl (by decide) _ xs.length (xs.map (Value.int .i64)) hs hown _ 1 1 [(Value.int .i64) y] hx rfl (fun j u hu=>?_) (fun u hu=>?_) (by simp[maxLen];omega) hb hbase ?_
 ·cases j with
  | zero =>
   simp at hu
   subst hu
   rw[Addr.add_lit,Nat.add_zero]
   exact hy
  | succ j=>simp at hu
 ·simp at hu
  subst hu
  rfl
 ·intro v' w' h1 h2 h3
  obtain⟨hl,hh⟩:=h1
  rcases hh with ⟨rfl,_⟩|⟨g',cap',cur,rfl,hr⟩
  ·have:=h3.1 rfl
   cases this.1
  ·refine h g' cap' w' ⟨by simp,Or.inr ⟨g',cap',cur,by simp,?_⟩⟩ h2
   simpa using hr
def zl (w:World) (base g cap:Nat) (xs:List ByteArray):Prop:=w.ownsRow base 9 1 (.slice (some ⟨g,0,none⟩) xs.length cap) xs.length (xs.map Value.string)
theorem zl.below {w w':World} {base g cap:Nat} {xs:List ByteArray} (h:zl w base g cap xs) (hb:Below w.heap.size w w'):zl w' base g cap xs:=by
 have hlt:=(World.ownsRow.lt h g rfl).2
 obtain⟨h1,h2⟩:=h
 refine⟨h1,?_⟩
 rcases h2 with h2|⟨g',cap',cur,hv,hg,hh,r⟩
 ·exact Or.inl h2
 ·simp only[Value.slice.injEq,Option.some.injEq,Addr.mk.injEq] at hv
  obtain⟨⟨rfl,_⟩,_,rfl⟩:=hv
  exact Or.inr ⟨g,cap,cur,rfl,hg,(hb.block g hlt).trans hh,r⟩
theorem zl.cell {w:World} {base g cap:Nat} {xs:List ByteArray} (h:zl w base g cap xs) (i:Nat) (hi:i<xs.length):w.cell? ⟨g,i,none⟩=some (Value.string xs[i]):=by
 have:=World.ownsRow.cells h (g:=g) rfl i (Value.string xs[i]) (by simp[hi])
 rw[Addr.add_lit,Nat.zero_add] at this
 exact this
theorem zl.lt {w:World} {base g cap:Nat} {xs:List ByteArray} (h:zl w base g cap xs):g<w.heap.size:=(World.ownsRow.lt h g rfl).2
theorem zl.base {w:World} {base g cap:Nat} {xs:List ByteArray} (h:zl w base g cap xs):base<=g:=(World.ownsRow.lt h g rfl).1
theorem zl.start (w:World) (base:Nat) (hb:base<=w.heap.size):zl (w.alloc (.cells #[] 9)) base w.heap.size 0 [] :=
 ⟨rfl,Or.inr ⟨_,_,#[],rfl,hb,Deep.blk_alloc_new _ _,Nat.le_refl _,Nat.zero_le _,rfl,rfl⟩⟩
theorem zl.at {w:World} {base g cap:Nat} {xs:List ByteArray} (h:zl w base g cap xs) (hR:∀x,x∈xs->uz 0 w [Value.string x] x) (hn:xs.length*16<=140737488355328):bf 1 16 uz 0 w (.slice (some ⟨g,0,none⟩) xs.length cap) xs:=by
 have hcap:xs.length<=cap:=by
  obtain⟨_,hh⟩:=h
  rcases hh with ⟨hh,_⟩|⟨g1,cap1,cur,hv,_,_,h2,_⟩
  ·cases hh
  ·simp only[Value.slice.injEq] at hv
   obtain⟨_,_,rfl⟩:=hv
   exact h2
 refine⟨_,cap,rfl,⟨hn,hcap⟩,by unfold Len;omega,fun i hi=>⟨g,0,[Value.string xs[i]],rfl,Nat.zero_le _,h.lt,rfl,fun j hj=>?_,hR _ (List.getElem_mem hi)⟩⟩
 have hj0:j=0:=by simpa using hj
 subst hj0
 simp only[Nat.zero_add,Nat.mul_one,Nat.add_zero,List.getElem_cons_zero]
 exact h.cell i hi
theorem aaw:(Tryz.prog.info? 9).map (fun i=>(i.zero,i.size,i.bytes))=some (some (.string ByteArray.empty),1,16):=by kernel_rfl
theorem Pn (w:World) {ops:Array Oper} {rest:List Oper} {o:Oper} {a:Act} {Q:Exit->Act->World->Prop} (hgd:o.guard=none) (s x:Operand)
  (ho:o.op=.call { callee:=.builtin .append,args:=#[s,x],argTypes:=#[40,40] })
  (base g cap:Nat) (xs:List ByteArray) (hs:a.eval s=.slice (some ⟨g,0,none⟩) xs.length cap) (hown:zl w base g cap xs)
  (eb:Nat) (y:ByteArray) (hx:a.eval x=.slice (some ⟨eb,0,none⟩) 1 1) (hy:w.cell? ⟨eb,0,none⟩=some (Value.string y)) (hb:(xs.length+1)*16<=140737488355328) (hbase:base<=w.heap.size)
  (h:∀g' cap' w',zl w' base g' cap' (xs++[y])->w.grownBy w' (some g)->wpList Tryz.prog ops Q rest (a.put o.dst (.slice (some ⟨g',0,none⟩) (xs.length+1) cap')) w'):wpList Tryz.prog ops Q (o::rest) a w:=by
 obtain⟨i,hi,hz0,hz1,hz2⟩:=info_parts aaw
 refine wpList_append_own w hgd s x 40 ho base 9 i _ 1 16 Tryz.underlying40 hi hz0 hz1 hz2 rfl (by decide) _ xs.length (xs.map Value.string) hs hown _ 1 1 [Value.string y] hx rfl (fun j u hu=>?_) (fun u hu=>?_) (by simp[maxLen];omega) hb hbase ?_
 ·cases j with
  | zero =>
   simp at hu
   subst hu
   rw[Addr.add_lit,Nat.add_zero]
   exact hy
  | succ j=>simp at hu
 ·simp at hu
  subst hu
  rfl
 ·intro v' w' h1 h2 h3
  obtain⟨hl,hh⟩:=h1
  rcases hh with ⟨rfl,_⟩|⟨g',cap',cur,rfl,hr⟩
  ·have:=h3.1 rfl
   cases this.1
  ·refine h g' cap' w' ⟨by simp,Or.inr ⟨g',cap',cur,by simp,?_⟩⟩ h2
   simpa using hr
theorem Yn (w:World) {ops:Array Oper} {rest:List Oper} {o:Oper} {a:Act} {Q:Exit->Act->World->Prop} (hgd:o.guard=none) (s x:Operand)
  (ho:o.op=.call { callee:=.builtin .append,args:=#[s,x],argTypes:=#[40,40] })
  (base g cap:Nat) (xs:List ByteArray) (hs:a.eval s=.slice (some ⟨g,0,none⟩) xs.length cap) (hown:zl w base g cap xs)
  (xv:Value) (hx:a.eval x=xv) (ys:List ByteArray) (hsl:bf 1 16 uz 0 w xv ys) (hb:(xs.length+ys.length)*16<=140737488355328) (hbase:base<=w.heap.size)
  (h:∀g' cap' w',zl w' base g' cap' (xs++ys)->w.grownBy w' (some g)->wpList Tryz.prog ops Q rest (a.put o.dst (.slice (some ⟨g',0,none⟩) (xs.length+ys.length) cap')) w'):wpList Tryz.prog ops Q (o::rest) a w:=by
 obtain⟨i,hi,hz0,hz1,hz2⟩:=info_parts aaw
 obtain⟨ax,cx,rfl,_,hn,hel⟩:=hsl
 cases ax with
 | none =>
  have hy:ys=[]:=by
   cases ys with
   | nil=>rfl
   | cons y ys =>
    obtain⟨b,o,cs,ql,_⟩:=hel 0 (by simp)
    cases ql
  subst hy
  refine wpList_plain hgd fun K hK=>?_
  have hcap:xs.length<=cap:=by
   obtain⟨_,hh⟩:=hown
   rcases hh with ⟨hh,_⟩|⟨g1,cap1,cur,hv,_,_,h2,_⟩
   ·cases hh
   ·simp only[Value.slice.injEq] at hv
    obtain⟨_,_,rfl⟩:=hv
    exact h2
  have hrun:=run_append_room_src (P:=Tryz.prog) w 40 40 o.type 9 i Tryz.underlying40 hi g 0 xs.length cap (.slice none 0 cx) 0 [] (Src.ofNil w Tryz.underlying40 cx) (by omega) (fun j hj=>by simp at hj) (fun j hj=>by simp at hj)
  unfold Oper.wp execOp
  simp only[ho,resolve,invoke,builtin,Sem.run_bind,Sem.run_pure,Result.andThen_ok,List.map_toArray,List.map_cons,List.map_nil,hs,hx,hrun,List.length_nil]
  refine hK _ _ ?_
  have hsc:w.setCells g (0+xs.length*i.size) []=w:=by simp[World.setCells]
  rw[hsc]
  have:=h g cap w (by simpa using hown) (World.grownBy.refl w _)
  simpa using this
 | some ad =>
  have hcellA:∀j u,(ys.map Value.string)[j]?=some u->w.cell? (ad.add j)=some u:=fun j u hu=>by
   have hj:j<ys.length:=by
    have:=(List.getElem?_eq_some_iff.1 hu).1
    simpa using this
   obtain⟨b,oo,cs,ql,_,_,hl,hc,hR⟩:=hel j hj
   simp only[Option.some.injEq] at ql
   subst ql
   obtain⟨rfl,_⟩:=hR
   have c0:=hc 0 (by simp)
   simp only[Nat.mul_one,Nat.add_zero,List.getElem_cons_zero] at c0
   rw[Addr.add_lit,c0]
   simp[hj] at hu
   rw[hu]
  refine wpList_append_own w hgd s x 40 ho base 9 i _ 1 16 Tryz.underlying40 hi hz0 hz1 hz2 rfl (by decide) _ xs.length (xs.map Value.string) hs hown ad ys.length cx (ys.map Value.string) hx (by simp) hcellA (fun u hu=>?_) (by simp[maxLen];omega) hb hbase ?_
  ·obtain⟨y,_,rfl⟩:=List.mem_map.1 hu
   rfl
  ·intro v' w' h1 h2 h3
   obtain⟨hl,hh⟩:=h1
   rcases hh with ⟨rfl,_⟩|⟨g',cap',cur,rfl,hr⟩
   ·have:=h3.1 rfl
    cases this.1
   ·refine h g' cap' w' ⟨by simp,Or.inr ⟨g',cap',cur,by simp,?_⟩⟩ h2
    simpa using hr
theorem Ro {B:Nat} {w w':World} {cs:Array Value} {t:TypeId} (h:Below (w.heap.size+1) (w.alloc (.cells cs t)) w') (j:Nat):w'.cell? ⟨w.heap.size,j,none⟩=cs[j]?:=by
 rw[h.cell (p:=⟨w.heap.size,j,none⟩) (Nat.lt_succ_self _),World.cell?_alloc_at _ _ _ _ rfl]
theorem axy {w w':World} {cs:Array Value} {t:TypeId} (h:Below (w.alloc (.cells cs t)).heap.size (w.alloc (.cells cs t)) w'):Below (w.heap.size+1) (w.alloc (.cells cs t)) w':=by simpa using h
theorem Np {B:Nat} {w0 w w':World} {g:Nat} (h:Below B w0 w) (hg:w.grownBy w' (some g)) (hB:B<=w.heap.size) (hr:B<=g):Below B w0 w' :=
 h.grown hg hB (fun k e=>by simp only[Option.some.injEq] at e;omega)
def iy (l:List ByteArray) (s:ByteArray):Int:=match l.findIdx? (fun x=>x.toList == s.toList) with
 | some i=>i
 | none => -1
theorem agi (l:List ByteArray) (k:Nat) (s:ByteArray) (hn:k<l.length) (h:(l[k].toList == s.toList)=true) (hb:∀j (hj:j<l.length),j<k->(l[j].toList == s.toList)=false):iy l s=k:=by
 unfold iy
 have:l.findIdx? (fun x=>x.toList == s.toList)=some k:=by
  rw[List.findIdx?_eq_some_iff_getElem]
  refine⟨hn,h,fun j hj=>?_⟩
  simp[hb j (by omega) hj]
 rw[this]
theorem amj (l:List ByteArray) (s:ByteArray) (hb:∀j (hj:j<l.length),(l[j].toList == s.toList)=false):iy l s = -1:=by
 unfold iy
 have:l.findIdx? (fun x=>x.toList == s.toList)=none:=by
  rw[List.findIdx?_eq_none_iff]
  intro x hx
  obtain⟨j,hj,rfl⟩:=List.getElem_of_mem hx
  exact hb j hj
 rw[this]
theorem O6 (l:List ByteArray) (s:ByteArray) : -1<=iy l s∧iy l s<l.length:=by
 unfold iy
 cases h:l.findIdx? (fun x=>x.toList == s.toList) with
 | none=>simp only;omega
 | some i =>
  rw[List.findIdx?_eq_some_iff_getElem] at h
  obtain⟨hi,_⟩:=h
  simp only
  omega
set_option maxHeartbeats 400000 in
theorem Zq (l:List ByteArray) (v:Value) (s:ByteArray) (w:World) (hv:bf 1 16 uz 0 w v l) :
  Calls Tryz.prog 48 #[v,.string s] w fun e w'=>e=.returned (.int .i64 (iy l s))∧w'=w:=by
 obtain⟨a,cap,rfl,_,hn,hx⟩:=hv
 unfold Len at hn
 have HX:=hide hx
 clear hx
 go_enter Tryz.func48,Tryz.ntmps48
 go_wp2
 go_loopg [9] l.length (fun g i wr=>∃(k:Nat),k<=l.length∧g=l.length-k∧i=.int .i64 k∧wr=w∧∀j (h:j<l.length),j<k->(l[j].toList == s.toList)=false)
 case atStart=>exact⟨0,by omega,by omega,rfl,rfl,fun j _ h2=>by omega⟩
 case round =>
  obtain⟨k,hk,hg,rfl,rfl,hall⟩:=hrel
  have HG:=hide hg
  have HA:=hide hall
  clear hg hall
  by_cases hlt:k<l.length
  ·obtain⟨b,o,cs,rfl,_,hb,hcs,hc,hR⟩:=uh HX k hlt
   obtain⟨rfl,hsn⟩:=hR
   have c0:=hc 0 (by simp)
   simp only[Nat.mul_one,Nat.add_zero,List.getElem_cons_zero,List.getElem_cons_succ] at c0
   clear hc hcs
   cases he:(l[k].toList == s.toList)
   ·have A':∀j (h:j<l.length),j<k+1->(l[j].toList == s.toList)=false:=by
     intro j h h1
     by_cases e:j=k
     ·subst e;exact he
     ·exact uh HA j h (by omega)
    have HA':=hide A'
    clear A'
    go_wp2
    go_roundg (l.length-(k+1))
    case measure=>have:=uh HG;omega
    case rel=>exact⟨k+1,by omega,rfl,by go_num,rfl,uh HA'⟩
   ·have HF:=hide (agi l k s hlt he (uh HA))
    go_wp2
    go_ret
    exact⟨Nq (uh HF).symm,rfl⟩
  ·have HF:=hide (amj l s (fun j hj=>uh HA j hj (by omega)))
   go_wp2
   go_ret
   exact⟨Nq (uh HF).symm,rfl⟩
def varsOf (k:ak):List ByteArray:=k.ins.map gy.name++k.outs.map gy.name++k.ay
theorem ah4 {w:World} {v:Value} {xs:List gy} (h:bf 2 24 xk 0 w v xs):∀x,x∈xs.map gy.name->Len x.size:=by
 intro x hx
 obtain⟨t,ht,rfl⟩:=List.mem_map.1 hx
 obtain⟨j,hj,rfl⟩:=List.getElem_of_mem ht
 obtain⟨_,_,_,_,_,hel⟩:=h
 obtain⟨_,_,_,_,_,_,_,_,hR⟩:=hel j hj
 exact hR.2.1
theorem awu {w:World} {v:Value} {xs:List ByteArray} (h:bf 1 16 uz 0 w v xs):∀x,x∈xs->Len x.size:=by
 intro x hx
 obtain⟨j,hj,rfl⟩:=List.getElem_of_mem hx
 obtain⟨_,_,_,_,_,hel⟩:=h
 obtain⟨_,_,_,_,_,_,_,_,hR⟩:=hel j hj
 exact hR.2
def Df (pre:List ByteArray) (l:List gy) (k:Nat):List ByteArray:=pre++(l.take k).map gy.name
theorem aax (pre:List ByteArray) (l:List gy):Df pre l 0=pre:=by simp[Df]
theorem acy (pre:List ByteArray) (l:List gy):Df pre l l.length=pre++l.map gy.name:=by simp[Df]
theorem aay (pre:List ByteArray) (l:List gy) (k:Nat) (h:k<l.length):Df pre l (k+1)=Df pre l k++[l[k].name]:=by
 unfold Df
 rw[List.take_succ_eq_append_getElem h,List.map_append,List.append_assoc]
 rfl
theorem Yo (pre:List ByteArray) (l:List gy) (k:Nat) (h:k<=l.length):(Df pre l k).length=pre.length+k:=by
 unfold Df
 rw[List.length_append,List.length_map,List.length_take]
 omega
set_option maxHeartbeats 2000000 in
theorem G9 (x:ak) (a1 a2 a3 a4 a5 a6:Value) (w:World) (h1:bf 2 24 xk 0 w a1 x.ins) (h2:bf 2 24 xk 0 w a2 x.outs) (h3:bf 1 16 uz 0 w a3 x.ay) (hsum:x.ins.length+x.outs.length+x.ay.length<=1048576) :
  Calls Tryz.prog 47 #[.agg #[.string x.name,a1,a2,a3,a4,a5,a6]] w fun e w'=>∃v,e=.returned v∧bf 1 16 uz 0 w' v (varsOf x)∧Below w.heap.size w w':=by
 obtain⟨s,ins,outs,ay,aj,insts,body⟩:=x
 simp only[varsOf] at *
 have H1:=hide h1
 have H2:=hide h2
 have H3:=hide h3
 obtain⟨p1,c1,rfl,_,_,hx1⟩:=h1
 obtain⟨p2,c2,rfl,_,_,hx2⟩:=h2
 have mg:=hide hx1
 have qp:=hide hx2
 clear h3 hx1 hx2
 have P0:=hide ((Below.refl w.heap.size w).alloc (Nat.le_refl _) (.cells #[.string s,.slice p1 ins.length c1,.slice p2 outs.length c2,a3,a4,a5,a6] 43))
 have O0:Hid (zl ((w.alloc (.cells #[.string s,.slice p1 ins.length c1,.slice p2 outs.length c2,a3,a4,a5,a6] 43)).alloc (.cells #[] 9)) (w.heap.size+1) (w.heap.size+1) 0 []):=by
  have:=zl.start (w.alloc (.cells #[.string s,.slice p1 ins.length c1,.slice p2 outs.length c2,a3,a4,a5,a6] 43)) (w.heap.size+1) (by simp)
  show zl _ _ _ _ _
  simpa using this
 go_enter Tryz.func47,Tryz.ntmps47
 go_wp2
 go_loopg [3,12] ins.length (fun gh vv i wr=>∃(k g cap:Nat),k<=ins.length∧gh=ins.length-k∧i=.int .i64 k∧vv=.slice (some ⟨g,0,none⟩) k cap∧zl wr (w.heap.size+1) g cap (Df [] ins k)∧Below (w.heap.size+1) (w.alloc (.cells #[.string s,.slice p1 ins.length c1,.slice p2 outs.length c2,a3,a4,a5,a6] 43)) wr)
 case atStart=>exact⟨0,w.heap.size+1,0,Nat.zero_le _,by omega,rfl,rfl,by rw[aax];exact uh O0,(Below.refl _ _).alloc (by simp) _⟩
 case round =>
  obtain⟨k,g,cap,hk,hg,rfl,rfl,hown,hbl⟩:=hrel
  rename World=>wN
  have HG:=hide hg
  have HOW:=hide hown
  have Ld:=hide hbl
  have BN:Hid (Below w.heap.size w wN):=(uh P0).trans (hbl.mono (Nat.le_succ _))
  have hgb:=hown.base
  have hNs:w.heap.size+1<=wN.heap.size:=by have:=hbl.size;simpa using this
  have hpl:=Yo [] ins k hk
  have HLEN:Hid ((Df [] ins k).length=k):=by
   show (Df [] ins k).length=k
   rw[hpl]
   simp
  clear hg hown hbl hpl
  by_cases hlt:k<ins.length
  ·obtain⟨b,o,cs,ql,_,hb,hcs,hc,hR⟩:=uh mg k hlt
   subst ql
   have hc:∀j (hj:j<cs.length),wN.cell? ⟨b,o+k*2+j,none⟩=some cs[j]:=fun j hj=>by rw[(uh BN).cell (p:=⟨b,_,none⟩) hb];exact hc j hj
   obtain⟨rfl,hsn,hty⟩:=hR
   have c0:=hc 0 (by simp)
   have c1:=hc 1 (by simp)
   simp only[Nat.mul_one,Nat.add_zero,List.getElem_cons_zero,List.getElem_cons_succ] at c0 c1
   have HT:=hide (aay [] ins k hlt)
   clear hc hcs hty
   generalize Df [] ins k=xs at *
   generalize ins[k]=sl at *
   obtain⟨nm,ty⟩:=sl
   simp only at c0 c1 HT
   have Ee:Hid (zl ((wN.alloc (.cells #[.string nm,.int .i64 ty] 79)).alloc (.cells #[.string nm] 9)) (w.heap.size+1) g cap xs):=(uh HOW).below (((Below.refl _ _).alloc (Nat.le_refl _) _).alloc (by simp) _)
   have Po:Hid (Below (w.heap.size+1) _ ((wN.alloc (.cells #[.string nm,.int .i64 ty] 79)).alloc (.cells #[.string nm] 9))):=(uh Ld).trans (((Below.refl _ _).alloc hNs _).alloc (by simp;omega) _)
   go_wp2_with (at_builtin;go_must (refine Pn _ rfl _ _ rfl (w.heap.size+1) g cap xs (by rw[uh HLEN];rfl) (uh Ee) (wN.heap.size+1) nm rfl (by rw[World.cell?_alloc_at _ _ _ _ (by simp)];rfl) (by rw[uh HLEN];omega) (by simp;omega) ?_))
   intro g' cap' w7 Ed Le
   have B7:=Np (uh Po) Le (by simp;omega) hgb
   rw[←uh HT] at Ed
   have V9:=hide Ed
   have Wh:=hide B7
   rw[uh HLEN]
   clear Ed Le B7
   go_wp2
   go_roundg (ins.length-(k+1))
   case measure=>have:=uh HG;omega
   case rel=>exact⟨k+1,g',cap',by omega,rfl,by go_num,rfl,uh V9,uh Wh⟩
  ·have e:k=ins.length:=by omega
   have Ei:Hid (zl wN (w.heap.size+1) g cap ([]++ins.map gy.name)):=by
    have:=uh HOW
    rw[e,acy] at this
    exact this
   have kb2:wN.cell? ⟨w.heap.size,2,none⟩=some (.slice p2 outs.length c2):=by rw[Ro (B:=0) (uh Ld) 2];rfl
   have kb3:wN.cell? ⟨w.heap.size,3,none⟩=some a3:=by rw[Ro (B:=0) (uh Ld) 3];rfl
   subst e
   clear HOW HLEN HG
   clear kb3
   go_wp2
   go_loopg [3,25] outs.length (fun gh vv i wr=>∃(k g cap:Nat),k<=outs.length∧gh=outs.length-k∧i=.int .i64 k∧vv=.slice (some ⟨g,0,none⟩) (ins.length+k) cap∧zl wr (w.heap.size+1) g cap (Df ([]++ins.map gy.name) outs k)∧Below (w.heap.size+1) (w.alloc (.cells #[.string s,.slice p1 ins.length c1,.slice p2 outs.length c2,a3,a4,a5,a6] 43)) wr)
   case atStart=>exact⟨0,g,cap,Nat.zero_le _,by omega,rfl,rfl,by rw[aax];exact uh Ei,uh Ld⟩
   case round =>
    obtain⟨k,g,cap,hk,hg,rfl,rfl,hown,hbl⟩:=hrel
    rename World=>wN
    have HG:=hide hg
    have HOW:=hide hown
    have Ld:=hide hbl
    have BN:Hid (Below w.heap.size w wN):=(uh P0).trans (hbl.mono (Nat.le_succ _))
    have hgb:=hown.base
    have hNs:w.heap.size+1<=wN.heap.size:=by have:=hbl.size;simpa using this
    have hpl:=Yo ([]++ins.map gy.name) outs k hk
    have HLEN:Hid ((Df ([]++ins.map gy.name) outs k).length=(ins.length+k)):=by
     show (Df ([]++ins.map gy.name) outs k).length=(ins.length+k)
     rw[hpl]
     simp
    clear hg hown hbl hpl
    by_cases hlt:k<outs.length
    ·obtain⟨b,o,cs,ql,_,hb,hcs,hc,hR⟩:=uh qp k hlt
     subst ql
     have hc:∀j (hj:j<cs.length),wN.cell? ⟨b,o+k*2+j,none⟩=some cs[j]:=fun j hj=>by rw[(uh BN).cell (p:=⟨b,_,none⟩) hb];exact hc j hj
     obtain⟨rfl,hsn,hty⟩:=hR
     have c0:=hc 0 (by simp)
     have c1:=hc 1 (by simp)
     simp only[Nat.mul_one,Nat.add_zero,List.getElem_cons_zero,List.getElem_cons_succ] at c0 c1
     have HT:=hide (aay ([]++ins.map gy.name) outs k hlt)
     clear hc hcs hty
     generalize Df ([]++ins.map gy.name) outs k=xs at *
     generalize outs[k]=sl at *
     obtain⟨nm,ty⟩:=sl
     simp only at c0 c1 HT
     have Ee:Hid (zl ((wN.alloc (.cells #[.string nm,.int .i64 ty] 79)).alloc (.cells #[.string nm] 9)) (w.heap.size+1) g cap xs):=(uh HOW).below (((Below.refl _ _).alloc (Nat.le_refl _) _).alloc (by simp) _)
     have Po:Hid (Below (w.heap.size+1) _ ((wN.alloc (.cells #[.string nm,.int .i64 ty] 79)).alloc (.cells #[.string nm] 9))):=(uh Ld).trans (((Below.refl _ _).alloc hNs _).alloc (by simp;omega) _)
     go_wp2_with (at_builtin;go_must (refine Pn _ rfl _ _ rfl (w.heap.size+1) g cap xs (by rw[uh HLEN];rfl) (uh Ee) (wN.heap.size+1) nm rfl (by rw[World.cell?_alloc_at _ _ _ _ (by simp)];rfl) (by rw[uh HLEN];omega) (by simp;omega) ?_))
     intro g' cap' w7 Ed Le
     have B7:=Np (uh Po) Le (by simp;omega) hgb
     rw[←uh HT] at Ed
     have V9:=hide Ed
     have Wh:=hide B7
     rw[uh HLEN]
     clear Ed Le B7
     go_wp2
     go_roundg (outs.length-(k+1))
     case measure=>have:=uh HG;omega
     case rel=>exact⟨k+1,g',cap',by omega,rfl,by go_num,by rw[Nat.add_assoc],uh V9,uh Wh⟩
    ·have e:k=outs.length:=by omega
     have Ei:Hid (zl wN (w.heap.size+1) g cap (([]++ins.map gy.name)++outs.map gy.name)):=by
      have:=uh HOW
      rw[e,acy] at this
      exact this
     have kb2:wN.cell? ⟨w.heap.size,2,none⟩=some (.slice p2 outs.length c2):=by rw[Ro (B:=0) (uh Ld) 2];rfl
     have kb3:wN.cell? ⟨w.heap.size,3,none⟩=some a3:=by rw[Ro (B:=0) (uh Ld) 3];rfl
     subst e
     clear HOW HLEN HG
     have hll:([]++ins.map gy.name++outs.map gy.name).length=ins.length+outs.length:=by simp
     have I9:=hide hll
     have HL3:=hide ((uh H3).stays lu (uh BN))
     have HLN:Hid (∀x,x∈([]++ins.map gy.name++outs.map gy.name)++ay->Len x.size):=by
      intro x hx
      rcases List.mem_append.1 hx with hx|hx
      ·rcases List.mem_append.1 hx with hx|hx
       ·exact ah4 (uh H1) x (by simpa using hx)
       ·exact ah4 (uh H2) x hx
      ·exact awu (uh H3) x hx
     have Yp:Hid (([]++ins.map gy.name++outs.map gy.name)++ay=ins.map gy.name++outs.map gy.name++ay):=by
      show ([]++ins.map gy.name++outs.map gy.name)++ay=_
      rw[List.nil_append]
     clear hll
     generalize []++ins.map gy.name++outs.map gy.name=xs at *
     go_wp2_with (at_builtin;go_must (refine Yn _ rfl _ _ rfl (w.heap.size+1) g cap xs (by rw[uh I9];rfl) (uh Ei) _ rfl ay (uh HL3) (by rw[uh I9];omega) (by omega) ?_))
     intro g' cap' w7 Ed Le
     have B7:=Np (uh Ld) Le (by omega) hgb
     have Q7:Below w.heap.size w w7:=(uh P0).trans (B7.mono (Nat.le_succ _))
     have D7:=Ed.at (fun x hx=>⟨rfl,uh HLN x hx⟩) (by rw[List.length_append,uh I9];omega)
     have HD7:=hide D7
     have HQ7:=hide Q7
     rw[List.length_append] at HD7
     rw[uh Yp] at HD7
     clear Ed Le B7 D7 Q7
     go_wp2
     go_ret
     exact⟨_,rfl,uh HD7,uh HQ7⟩
end Go.Proofs.YtlcgnbcgmljpaaaGreat
