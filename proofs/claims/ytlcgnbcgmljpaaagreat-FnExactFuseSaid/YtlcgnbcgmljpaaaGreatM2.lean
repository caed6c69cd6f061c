import Derived.Test.YtlcgnbcgmljpaaaGreatCodeB
import Derived.Deep.RegionHeld3
import Derived.Deep.QuietTactic
import Derived.BigQuiet
namespace Go.Proofs.YtlcgnbcgmljpaaaGreat
open Go.RowKit
set_option linter.unusedSimpArgs false
set_option linter.unusedVariables false
def setB (k:ak) (x:ByteArray):Bool:=decide ((k.ins.length:Int)<=iy (varsOf k) x)
structure F7 (w:World) (k:ak) (a1 a2 a3 a4 a5 a6:Value):Prop where
 ins:bf 2 24 xk 0 w a1 k.ins
 outs:bf 2 24 xk 0 w a2 k.outs
 ay:bf 1 16 uz 0 w a3 k.ay
 aj:bf 1 8 yu 0 w a4 k.aj
 insts:bf 1 8 yu 0 w a5 k.insts
 body:bf 6 104 Ec 0 w a6 k.body
 name:Len k.name.size
 sum:k.ins.length+k.outs.length+k.ay.length<=1048576
theorem F7.stays {w w':World} {k:ak} {a1 a2 a3 a4 a5 a6:Value} (h:F7 w k a1 a2 a3 a4 a5 a6) (hb:Below w.heap.size w w'):F7 w' k a1 a2 a3 a4 a5 a6 :=
 ⟨h.ins.stays jq hb,h.outs.stays jq hb,h.ay.stays lu hb,h.aj.stays jy hb,h.insts.stays jy hb,h.body.stays xu hb,h.name,h.sum⟩
set_option maxHeartbeats 1000000 in
theorem Gj (k:ak) (x:ByteArray) (a1 a2 a3 a4 a5 a6:Value) (w:World) (h:F7 w k a1 a2 a3 a4 a5 a6) :
  Calls Tryz.prog 74 #[.agg #[.string k.name,a1,a2,a3,a4,a5,a6],.string x] w (Ans (.bool (setB k x)) w):=by
 have HI:=hide h
 obtain⟨b1,c1,rfl⟩:=h.ins.shape
 have hl:k.ins.length<=1048576:=by have:=h.sum;omega
 obtain⟨b2,c2,rfl⟩:=h.outs.shape
 obtain⟨b3,c3,rfl⟩:=h.ay.shape
 obtain⟨b4,c4,rfl⟩:=h.aj.shape
 obtain⟨b5,c5,rfl⟩:=h.insts.shape
 obtain⟨b6,c6,rfl⟩:=h.body.shape
 clear h
 have B0:=hide ((Below.refl w.heap.size w).alloc (Nat.le_refl _) (.cells #[.string k.name,.slice b1 k.ins.length c1,.slice b2 k.outs.length c2,.slice b3 k.ay.length c3,.slice b4 k.aj.length c4,.slice b5 k.insts.length c5,.slice b6 k.body.length c6] 43))
 have HS:Hid (setB k x=decide ((k.ins.length:Int)<=iy (varsOf k) x)):=rfl
 have HV:=hide (fun w' (hb:Below w.heap.size w w')=>G9 k _ _ _ (.slice b4 k.aj.length c4) (.slice b5 k.insts.length c5) (.slice b6 k.body.length c6) w' ((uh HI).stays hb).ins ((uh HI).stays hb).outs ((uh HI).stays hb).ay (uh HI).sum)
 have hpb:=O6 (varsOf k) x
 generalize setB k x=sb at *
 generalize k.name=s at *
 generalize k.ins.length=n1 at *
 generalize k.outs.length=n2 at *
 generalize k.ay.length=n3 at *
 generalize k.aj.length=n4 at *
 generalize k.insts.length=n5 at *
 generalize k.body.length=n6 at *
 go_enter Tryz.func74,Tryz.ntmps74
 go_wp2_with fail
 have B0d:Hid (Below w.heap.size w (w.alloc (.cells #[.string s,.slice b1 n1 c1,.slice b2 n2 c2,.slice b3 n3 c3,.slice b4 n4 c4,.slice b5 n5 c5,.slice b6 n6 c6] 43)).drew):=(uh B0).drew
 have J9:=hide (uh HV _ (uh B0d))
 go_region_with (first|(go_at_call 47;refine(uh J9).mono ?_;rintro e w1 ⟨vv,rfl,X6,hb1⟩;have k1:w1.cell? ⟨w.heap.size,1,none⟩=some (.slice b1 n1 c1):=(hb1.cell (p:=⟨w.heap.size,1,none⟩) (by simp)).trans (by simp[World.cell?_alloc_at]);have HB1:=hide ((uh B0d).trans (hb1.mono (uh B0d).size));have HPL:=hide (Zq (varsOf k) _ x w1 X6);clear X6 hb1)|(go_at_call 48;refine(uh HPL).mono ?_;rintro e w2 ⟨rfl,rfl⟩))
 all_goals
  go_wp2
  go_ret
  refine⟨oq ?_,uh HB1⟩
  rw[uh HS]
end Go.Proofs.YtlcgnbcgmljpaaaGreat
namespace Go.Proofs.YtlcgnbcgmljpaaaGreat
open Go.RowKit
set_option linter.unusedSimpArgs false
set_option linter.unusedVariables false
structure wo (P:Program) (α:Type) where
 T:TypeId
 ST:TypeId
 sz:Nat
 jh:Nat
 f:α->List Value
 z:Value
 hT:P.underlying ST=some (.slice T)
 hi:(P.info? T).map (fun i=>(i.zero,i.size,i.bytes))=some (some z,sz,jh)
 hz:z.cells.size=sz
 hf:∀x,(f x).length=sz
 h1:∀x u,u∈f x->u.oneCell'=true
 hsz:0<sz
 hby:0<jh
theorem flat_get {α β:Type} (f:α->List β) (sz:Nat) (hf:∀x,(f x).length=sz):∀(xs:List α) (i:Nat) (hi:i<xs.length) (j:Nat),j<sz->(xs.flatMap f)[i*sz+j]?=(f xs[i])[j]?
 | x::xs,0,_,j,hj=>by
  rw[List.flatMap_cons,Nat.zero_mul,Nat.zero_add,List.getElem?_append_left (by rw[hf];exact hj)]
  rfl
 | x::xs,i+1,hi,j,hj=>by
  rw[List.flatMap_cons,List.getElem?_append_right (by rw[hf,Nat.add_mul];omega),hf]
  have e:(i+1)*sz+j-sz=i*sz+j:=by rw[Nat.add_mul];omega
  rw[e,flat_get f sz hf xs i (by simpa using hi) j hj]
  rfl
theorem Mc {α β:Type} (f:α->List β) (sz:Nat) (hf:∀x,(f x).length=sz):∀(xs:List α),(xs.flatMap f).length=xs.length*sz
 | []=>by simp
 | x::xs=>by
  rw[List.flatMap_cons,List.length_append,hf,Mc f sz hf xs,List.length_cons,Nat.add_mul]
  omega
section
variable {P:Program} {α:Type} (E:wo P α)
def dw (w:World) (base:Nat) (v:Value) (xs:List α):Prop:=w.ownsRow base E.T E.sz v xs.length (xs.flatMap E.f)
variable {E}
theorem dw.nil (w:World) (base:Nat):dw E w base (.slice none 0 0) []:=⟨by simp,Or.inl ⟨rfl,rfl⟩⟩
theorem dw.start (w:World) (base:Nat) (hb:base<=w.heap.size):dw E (w.alloc (.cells #[] E.T)) base (.slice (some ⟨w.heap.size,0,none⟩) 0 0) [] :=
 ⟨by simp,Or.inr ⟨_,_,#[],rfl,hb,Deep.blk_alloc_new _ _,Nat.le_refl _,Nat.zero_le _,by simp,by simp⟩⟩
theorem dw.below {w w':World} {base:Nat} {v:Value} {xs:List α} (h:dw E w base v xs) (hb:Below w.heap.size w w'):dw E w' base v xs:=by
 obtain⟨h1,h2⟩:=h
 refine⟨h1,?_⟩
 rcases h2 with h2|⟨g,cap,cur,hv,hg,hh,r⟩
 ·exact Or.inl h2
 ·exact Or.inr ⟨g,cap,cur,hv,hg,(hb.block g (Array.getElem?_eq_some_iff.1 hh).1).trans hh,r⟩
theorem dw.shape {w:World} {base:Nat} {v:Value} {xs:List α} (h:dw E w base v xs):(v=.slice none 0 0∧xs=[])∨∃g cap,v=.slice (some ⟨g,0,none⟩) xs.length cap∧base<=g∧g<w.heap.size∧xs.length<=cap:=by
 obtain⟨_,h2⟩:=h
 rcases h2 with ⟨rfl,h2⟩|⟨g,cap,cur,hv,hg,hh,hc,_⟩
 ·exact Or.inl ⟨rfl,List.eq_nil_of_length_eq_zero h2⟩
 ·exact Or.inr ⟨g,cap,hv,hg,(Array.getElem?_eq_some_iff.1 hh).1,hc⟩
theorem dw.slice {w:World} {base:Nat} {v:Value} {xs:List α} (h:dw E w base v xs):∃a cap,v=.slice a xs.length cap:=by
 rcases h.shape with ⟨rfl,rfl⟩|⟨g,cap,rfl,_⟩
 ·exact⟨_,_,rfl⟩
 ·exact⟨_,_,rfl⟩
theorem dw.block {w:World} {base:Nat} {v:Value} {xs:List α} (h:dw E w base v xs):∀g,v.ownBlock=some g->base<=g:=by
 rcases h.shape with ⟨rfl,rfl⟩|⟨g,cap,rfl,hb,_⟩
 ·intro g hg;cases hg
 ·intro g' hg;cases hg;exact hb
theorem dw.grown {w0 w w':World} {B base:Nat} {v:Value} {xs:List α} (h:dw E w base v xs) (hb:Below B w0 w) (hg:w.grownBy w' v.ownBlock) (hB:B<=w.heap.size) (hr:B<=base):Below B w0 w' :=
 hb.grown hg hB (fun k e=>Nat.le_trans hr (h.block k e))
theorem dw.at {R:Nat->World->List Value->α->Prop} {w:World} {base:Nat} {v:Value} {xs:List α} (h:dw E w base v xs) (hR:∀x,x∈xs->R 0 w (E.f x) x) (hn:xs.length*E.jh<=140737488355328):bf E.sz E.jh R 0 w v xs:=by
 have hlen:xs.length<=140737488355328:=Nat.le_trans (Nat.le_mul_of_pos_right _ E.hby) hn
 have h':=h
 rcases h.shape with ⟨rfl,rfl⟩|⟨g,cap,rfl,hb,hlt,hcap⟩
 ·exact⟨none,0,rfl,⟨by simp[Len],Nat.le_refl _⟩,by simp[Len],fun i hi=>absurd hi (Nat.not_lt_zero _)⟩
 ·refine⟨_,cap,rfl,⟨hn,hcap⟩,hlen,fun i hi=>⟨g,0,E.f xs[i],rfl,Nat.zero_le _,hlt,E.hf _,fun j hj=>?_,hR _ (List.getElem_mem hi)⟩⟩
  have hjs:j<E.sz:=by rw[←E.hf xs[i]];exact hj
  have:=World.ownsRow.cells h' (g:=g) rfl (i*E.sz+j) (E.f xs[i])[j] (by rw[flat_get E.f E.sz E.hf xs i hi j hjs];simp[hj])
  rw[Addr.add_lit] at this
  rw[←this]
  congr 2
  omega
theorem qw (E:wo P α) {R:Nat->World->List Value->α->Prop} (hRf:∀w cs x,R 0 w cs x->cs=E.f x) (w:World) {ops:Array Oper} {rest:List Oper} {o:Oper} {a:Act} {Q:Exit->Act->World->Prop} (hgd:o.guard=none) (s x:Operand)
  (ho:o.op=.call { callee:=.builtin .append,args:=#[s,x],argTypes:=#[E.ST,E.ST] })
  (base g cap:Nat) (xs:List α) (hs:a.eval s=.slice (some ⟨g,0,none⟩) xs.length cap) (hown:dw E w base (.slice (some ⟨g,0,none⟩) xs.length cap) xs)
  (xv:Value) (hx:a.eval x=xv) (ys:List α) (hsl:bf E.sz E.jh R 0 w xv ys) (hb:(xs.length+ys.length)*E.jh<=140737488355328) (hbase:base<=w.heap.size)
  (h:∀g' cap' w',dw E w' base (.slice (some ⟨g',0,none⟩) (xs.length+ys.length) cap') (xs++ys)->w.grownBy w' (some g)->wpList P ops Q rest (a.put o.dst (.slice (some ⟨g',0,none⟩) (xs.length+ys.length) cap')) w'):wpList P ops Q (o::rest) a w:=by
 obtain⟨i,hi,hz0,hz1,hz2⟩:=info_parts E.hi
 obtain⟨ax,cx,rfl,_,hn,hel⟩:=hsl
 have hlen:xs.length+ys.length<=140737488355328:=Nat.le_trans (Nat.le_mul_of_pos_right _ E.hby) hb
 have hcap:xs.length<=cap:=by
  rcases hown.shape with ⟨hh,_⟩|⟨g1,cap1,hv,_,_,h2⟩
  ·cases hh
  ·simp only[Value.slice.injEq] at hv
   obtain⟨_,_,rfl⟩:=hv
   exact h2
 cases ax with
 | none =>
  have hy:ys=[]:=by
   cases ys with
   | nil=>rfl
   | cons y ys =>
    obtain⟨b,o,cs,ql,_⟩:=hel 0 (by simp)
    cases ql
  subst hy
  refine wpList_plain hgd fun K hK=>?_
  have hrun:=run_append_room_src (P:=P) w E.ST E.ST o.type E.T i E.hT hi g 0 xs.length cap (.slice none 0 cx) 0 [] (Src.ofNil w E.hT cx) (by omega) (fun j hj=>by simp at hj) (fun j hj=>by simp at hj)
  unfold Oper.wp execOp
  simp only[ho,resolve,invoke,builtin,Sem.run_bind,Sem.run_pure,Result.andThen_ok,List.map_toArray,List.map_cons,List.map_nil,hs,hx,hrun,List.length_nil]
  refine hK _ _ ?_
  have hsc:w.setCells g (0+xs.length*i.size) []=w:=by simp[World.setCells]
  rw[hsc]
  have:=h g cap w (by simpa using hown) (World.grownBy.refl w _)
  simpa using this
 | some ad =>
  have hcellA:∀j u,(ys.flatMap E.f)[j]?=some u->w.cell? (ad.add j)=some u:=fun j u hu=>by
   have hj:j<ys.length*E.sz:=by
    have:=(List.getElem?_eq_some_iff.1 hu).1
    rwa[Mc E.f E.sz E.hf] at this
   have hsz:=E.hsz
   have hdiv:j / E.sz<ys.length:=Nat.div_lt_of_lt_mul (by rw[Nat.mul_comm];exact hj)
   have hmod:j % E.sz<E.sz:=Nat.mod_lt _ hsz
   have hjj:j / E.sz*E.sz+j % E.sz=j:=by rw[Nat.mul_comm];exact Nat.div_add_mod j E.sz
   obtain⟨b,oo,cs,ql,_,_,hl,hc,hR⟩:=hel (j / E.sz) hdiv
   simp only[Option.some.injEq] at ql
   subst ql
   have ecs:=hRf _ _ _ hR
   subst ecs
   have hg:=flat_get E.f E.sz E.hf ys (j / E.sz) hdiv (j % E.sz) hmod
   rw[hjj,hu] at hg
   obtain⟨hjl,hju⟩:=List.getElem?_eq_some_iff.1 hg.symm
   have hcc:=hc (j % E.sz) hjl
   rw[hju] at hcc
   rw[Addr.add_lit,←hcc]
   congr 2
   omega
  refine wpList_append_own w hgd s x E.ST ho base E.T i _ E.sz E.jh E.hT hi hz0 hz1 hz2 E.hz E.hsz _ xs.length (xs.flatMap E.f) hs hown ad ys.length cx (ys.flatMap E.f) hx (Mc E.f E.sz E.hf ys) hcellA (fun u hu=>?_) (by simp[maxLen];omega) hb hbase ?_
  ·obtain⟨y,_,hy⟩:=List.mem_flatMap.1 hu
   exact E.h1 y u hy
  ·intro v' w' h1 h2 h3
   obtain⟨hl,hh⟩:=h1
   rcases hh with ⟨rfl,_⟩|⟨g',cap',cur,rfl,hr⟩
   ·have:=h3.1 rfl
    cases this.1
   ·refine h g' cap' w' ⟨?_,Or.inr ⟨g',cap',cur,by rw[List.length_append],?_⟩⟩ h2
    ·rw[List.length_append,List.flatMap_append]
     exact hl
    ·rw[List.length_append,List.flatMap_append]
     exact hr
end
def Dv:wo Tryz.prog iw where
 T:=141
 ST:=57
 sz:=3
 jh:=32
 f:=fun t=>[.int .i64 t.op,.int .i64 t.val,.string t.name]
 z:=.agg #[.int .i64 0,.int .i64 0,.string ByteArray.empty]
 hT:=Tryz.underlying57
 hi:=by kernel_rfl
 hz:=rfl
 hf:=fun _=>rfl
 h1:=fun c u hu=>by
  simp only[List.mem_cons,List.not_mem_nil,or_false] at hu
  rcases hu with rfl|rfl|rfl<;>rfl
 hsz:=by decide
 hby:=by decide
def Hw:wo Tryz.prog Int where
 T:=3
 ST:=41
 sz:=1
 jh:=8
 f:=fun t=>[.int .i64 t]
 z:=.int .i64 0
 hT:=Tryz.underlying41
 hi:=by kernel_rfl
 hz:=rfl
 hf:=fun _=>rfl
 h1:=fun c u hu=>by
  simp only[List.mem_cons,List.not_mem_nil,or_false] at hu
  rcases hu with rfl
  rfl
 hsz:=by decide
 hby:=by decide
def Gw:wo Tryz.prog ByteArray where
 T:=9
 ST:=40
 sz:=1
 jh:=16
 f:=fun t=>[.string t]
 z:=.string ByteArray.empty
 hT:=Tryz.underlying40
 hi:=by kernel_rfl
 hz:=rfl
 hf:=fun _=>rfl
 h1:=fun c u hu=>by
  simp only[List.mem_cons,List.not_mem_nil,or_false] at hu
  rcases hu with rfl
  rfl
 hsz:=by decide
 hby:=by decide
end Go.Proofs.YtlcgnbcgmljpaaaGreat
namespace Go.Proofs.YtlcgnbcgmljpaaaGreat
open Go.RowKit
set_option linter.unusedSimpArgs false
set_option linter.unusedVariables false
def au (w:World) (g:Nat) (e:TypeId) (cs:Array Value):Prop:=w.heap[g]?=some (.cells cs e (0,0))
theorem au.lt {w:World} {g:Nat} {e:TypeId} {cs:Array Value} (h:au w g e cs):g<w.heap.size:=(Array.getElem?_eq_some_iff.1 h).1
theorem au.cell {w:World} {g:Nat} {e:TypeId} {cs:Array Value} (h:au w g e cs) {i:Nat} {v:Value} (hi:cs[i]?=some v):w.cell? ⟨g,i,none⟩=some v:=by
 unfold au at h
 simp[World.cell?,h,hi]
theorem au.free {w:World} {g:Nat} {e:TypeId} {cs:Array Value} (h:au w g e cs) (i:Nat):w.frozen? ⟨g,i,none⟩=false:=by
 unfold au at h
 simp[World.frozen?,h]
theorem au.below {w w':World} {g B:Nat} {e:TypeId} {cs:Array Value} (h:au w g e cs) (hb:Below B w w') (hg:g<B):au w' g e cs:=(hb.block g hg).trans h
theorem au.set {w:World} {g:Nat} {e:TypeId} {cs:Array Value} (h:au w g e cs) (i:Nat) (v:Value):au (w.setCell ⟨g,i,none⟩ v) g e (cs.setIfInBounds i v):=by
 unfold au at *
 simp only[World.setCell,Array.getElem?_modify,if_true,h,Option.map_some]
 simp
theorem jl (w:World) (cs:Array Value) (e:TypeId):au (w.alloc (.cells cs e)) w.heap.size e cs:=by
 show (w.heap.push _)[w.heap.size]?=_
 rw[Array.getElem?_push_size]
theorem bf.uy {α:Type} {sz jh lo:Nat} {R:Nat->World->List Value->α->Prop} {w:World} {v:Value} {xs:List α} (h:bf sz jh R lo w v xs):xs.length<=140737488355328:=by
 obtain⟨_,_,_,_,h,_⟩:=h
 exact h
def Pg (k:ak) (t:iw):Bool:=!(decide (20<t.op)&&t.op != 25)&&(t.op != 3||inB (varsOf k) t.name)&&(t.op != 25||decide (0<=t.val∧t.val<(k.aj.length:Int)))
def Oe (k:ak) (code:List iw):Bool:=Ym 6000 code&&code.all (Pg k)
def Cc:List Int->Nat->Int->Int->Int × Int
 | [],_,_,_=>(-1,-1)
 | kd::r,j,d,o =>
  if kd=4 then Cc r (j+1) (d+1) o
  else if kd=5 then (if d=1 then (if 0<=o then (-1,-1) else Cc r (j+1) d (j:Int)) else Cc r (j+1) d o)
  else if kd=6 then (if d-1=0 then (o,(j:Int)) else Cc r (j+1) (d-1) o)
  else Cc r (j+1) d o
def je (ks:List Int) (i:Nat):Int × Int:=Cc (ks.drop i) i 0 (-1)
theorem afw {a b:Int} {p:Int × Int} (h:p=(a,b)):Ending.returned (.tuple #[.int .i64 a,.int .i64 b])=.returned (.tuple #[.int .i64 p.1,.int .i64 p.2]):=by rw[h]
theorem aqh (ks:List Int):∀(j:Nat) (d o:Int),0<=(Cc ks j d o).2->((j:Int)<=(Cc ks j d o).2∧(Cc ks j d o).2<(j:Int)+ks.length)∧((Cc ks j d o).1=o∨((j:Int)<=(Cc ks j d o).1∧(Cc ks j d o).1<(Cc ks j d o).2)):=by
 induction ks with
 | nil=>intro j d o h;simp[Cc] at h
 | cons kd r ih =>
  intro j d o h
  unfold Cc at h ⊢
  simp only[List.length_cons]
  split at h<;>rename_i h4
  ·rw[if_pos h4]
   have:=ih (j+1) (d+1) o h
   omega
  ·rw[if_neg h4]
   split at h<;>rename_i h5
   ·rw[if_pos h5]
    split at h<;>rename_i hd
    ·rw[if_pos hd]
     split at h<;>rename_i ho
     ·simp at h
     ·rw[if_neg ho]
      have:=ih (j+1) d (j:Int) h
      omega
    ·rw[if_neg hd]
     have:=ih (j+1) d o h
     omega
   ·rw[if_neg h5]
    split at h<;>rename_i h6
    ·rw[if_pos h6]
     split at h<;>rename_i hd
     ·rw[if_pos hd]
      exact⟨⟨Int.le_refl _,by omega⟩,Or.inl rfl⟩
     ·rw[if_neg hd]
      have:=ih (j+1) (d-1) o h
      omega
    ·rw[if_neg h6]
     have:=ih (j+1) d o h
     omega
theorem adk (ks:List Int) (i:Nat) (hi:i<ks.length) (h4:ks[i]=4) (h1:0<=(je ks i).1) (h2:0<=(je ks i).2):(i:Int)+1<=(je ks i).1∧(je ks i).1<(je ks i).2∧(je ks i).2<ks.length:=by
 unfold je at *
 rw[List.drop_eq_getElem_cons hi,h4] at h1 h2 ⊢
 unfold Cc at h1 h2 ⊢
 rw[if_pos rfl] at h1 h2 ⊢
 have:=aqh (ks.drop (i+1)) (i+1) (0+1) (-1) h2
 rw[List.length_drop] at this
 omega
theorem jf {a b:Bool} (h:a=b):Ending.returned (Value.bool a)=.returned (.bool b):=by rw[h]
theorem Ul {α:Type} {p:α->Bool} {l:List α} (i:Nat) (hi:i<l.length) (h:p l[i]=false):l.all p=false:=by
 rw[List.all_eq_false]
 exact⟨l[i],List.getElem_mem hi,by simp[h]⟩
theorem Qa {α:Type} {p:α->Bool} {l:List α} (h:∀j (hj:j<l.length),p l[j]=true):l.all p=true:=by
 rw[List.all_eq_true]
 intro x hx
 obtain⟨j,hj,rfl⟩:=List.getElem_of_mem hx
 exact h j hj
set_option maxRecDepth 20000 in
set_option maxHeartbeats 4000000 in
theorem Ik (k:ak) (code:List iw) (a1 a2 a3 a4 a5 a6 v:Value) (w:World) (h:F7 w k a1 a2 a3 a4 a5 a6) (hv:bf 3 32 tu 0 w v code) :
  Calls Tryz.prog 75 #[.agg #[.string k.name,a1,a2,a3,a4,a5,a6],v] w (Ans (.bool (Oe k code)) w):=by
 have HI:=hide h
 obtain⟨b1,c1,rfl⟩:=h.ins.shape
 obtain⟨b2,c2,rfl⟩:=h.outs.shape
 obtain⟨b3,c3,rfl⟩:=h.ay.shape
 obtain⟨b4,c4,rfl⟩:=h.aj.shape
 obtain⟨b5,c5,rfl⟩:=h.insts.shape
 obtain⟨b6,c6,rfl⟩:=h.body.shape
 have n4:=h.aj.uy
 clear h
 have hA:Below w.heap.size w (w.alloc (.cells #[.string k.name,.slice b1 k.ins.length c1,.slice b2 k.outs.length c2,.slice b3 k.ay.length c3,.slice b4 k.aj.length c4,.slice b5 k.insts.length c5,.slice b6 k.body.length c6] 43)):=(Below.refl _ _).alloc (Nat.le_refl _) _
 have Lc:=hide (ah2 6000 code v (w.alloc (.cells #[.string k.name,.slice b1 k.ins.length c1,.slice b2 k.outs.length c2,.slice b3 k.ay.length c3,.slice b4 k.aj.length c4,.slice b5 k.insts.length c5,.slice b6 k.body.length c6] 43)) (hv.stays og hA))
 have Kt:au (w.alloc (.cells #[.string k.name,.slice b1 k.ins.length c1,.slice b2 k.outs.length c2,.slice b3 k.ay.length c3,.slice b4 k.aj.length c4,.slice b5 k.insts.length c5,.slice b6 k.body.length c6] 43)) w.heap.size 43 #[.string k.name,.slice b1 k.ins.length c1,.slice b2 k.outs.length c2,.slice b3 k.ay.length c3,.slice b4 k.aj.length c4,.slice b5 k.insts.length c5,.slice b6 k.body.length c6]:=jl w #[.string k.name,.slice b1 k.ins.length c1,.slice b2 k.outs.length c2,.slice b3 k.ay.length c3,.slice b4 k.aj.length c4,.slice b5 k.insts.length c5,.slice b6 k.body.length c6] 43
 obtain⟨BX,gq⟩:∃BX:World->Prop,∀w',BX w'↔Below (w.heap.size+1) (w.alloc (.cells #[.string k.name,.slice b1 k.ins.length c1,.slice b2 k.outs.length c2,.slice b3 k.ay.length c3,.slice b4 k.aj.length c4,.slice b5 k.insts.length c5,.slice b6 k.body.length c6] 43)) w':=⟨_,fun _=>Iff.rfl⟩
 have Oq:(w.alloc (.cells #[.string k.name,.slice b1 k.ins.length c1,.slice b2 k.outs.length c2,.slice b3 k.ay.length c3,.slice b4 k.aj.length c4,.slice b5 k.insts.length c5,.slice b6 k.body.length c6] 43)).heap.size=w.heap.size+1:=by simp
 have mg:Hid (∀w1,BX w1->Below w.heap.size w w1):=fun w1 h=>hA.trans (((gq w1).1 h).mono (by omega))
 have qp:Hid (∀w1 w2,BX w1->Below w1.heap.size w1 w2->BX w2):=fun w1 w2 h h2=>(gq w2).2 (((gq w1).1 h).trans (h2.mono (by have:=((gq w1).1 h).size;omega)))
 have yg:Hid (∀w1,BX w1->w1.cell? ⟨w.heap.size,0,none⟩=some (.string k.name)∧w1.cell? ⟨w.heap.size,1,none⟩=some (.slice b1 k.ins.length c1)∧w1.cell? ⟨w.heap.size,2,none⟩=some (.slice b2 k.outs.length c2)∧w1.cell? ⟨w.heap.size,3,none⟩=some (.slice b3 k.ay.length c3)∧w1.cell? ⟨w.heap.size,4,none⟩=some (.slice b4 k.aj.length c4)∧w1.cell? ⟨w.heap.size,5,none⟩=some (.slice b5 k.insts.length c5)∧w1.cell? ⟨w.heap.size,6,none⟩=some (.slice b6 k.body.length c6)):=fun w1 h=>⟨(Kt.below ((gq w1).1 h) (by omega)).cell (i:=0) (v:=.string k.name) rfl,(Kt.below ((gq w1).1 h) (by omega)).cell (i:=1) (v:=.slice b1 k.ins.length c1) rfl,(Kt.below ((gq w1).1 h) (by omega)).cell (i:=2) (v:=.slice b2 k.outs.length c2) rfl,(Kt.below ((gq w1).1 h) (by omega)).cell (i:=3) (v:=.slice b3 k.ay.length c3) rfl,(Kt.below ((gq w1).1 h) (by omega)).cell (i:=4) (v:=.slice b4 k.aj.length c4) rfl,(Kt.below ((gq w1).1 h) (by omega)).cell (i:=5) (v:=.slice b5 k.insts.length c5) rfl,(Kt.below ((gq w1).1 h) (by omega)).cell (i:=6) (v:=.slice b6 k.body.length c6) rfl⟩
 have Ky:Hid (∀w1,BX w1->w.heap.size+1<=w1.heap.size):=fun w1 h=>by have:=((gq w1).1 h).size;omega
 have HX0:Hid (BX (w.alloc (.cells #[.string k.name,.slice b1 k.ins.length c1,.slice b2 k.outs.length c2,.slice b3 k.ay.length c3,.slice b4 k.aj.length c4,.slice b5 k.insts.length c5,.slice b6 k.body.length c6] 43))):=(gq _).2 (Below.refl _ _)
 have HVR:=hide (fun w' (hb:Below w.heap.size w w')=>G9 k _ _ _ (.slice b4 k.aj.length c4) (.slice b5 k.insts.length c5) (.slice b6 k.body.length c6) w' ((uh HI).stays hb).ins ((uh HI).stays hb).outs ((uh HI).stays hb).ay (uh HI).sum)
 have hx:=hv
 obtain⟨av,cv,rfl,_,hn,hx⟩:=hx
 unfold Len at hn
 have HVX:=hide hx
 have HM:Hid (Oe k code=(Ym 6000 code&&code.all (Pg k))):=rfl
 generalize Oe k code=R at *
 clear hA Kt gq hx hv Oq
 cases hs:Ym 6000 code
 ·rw[hs] at Lc HM
  have HR:Hid (R=false):=(uh HM).trans (Bool.false_and _)
  clear HM hs
  go_enter Tryz.func75,Tryz.ntmps75
  go_wp2_with fail
  refine(uh Lc).mono ?_
  rintro e w1 ⟨rfl,hb1⟩
  have HB:=hide (uh mg _ (uh qp _ _ (uh HX0) hb1))
  clear hb1
  go_wp2
  go_ret
  exact⟨jf (uh HR).symm,uh HB⟩
 rw[hs] at Lc HM
 have HR:Hid (R=code.all (Pg k)):=(uh HM).trans (Bool.true_and _)
 clear HM hs
 go_enter Tryz.func75,Tryz.ntmps75
 go_wp2_with fail
 refine(uh Lc).mono ?_
 rintro e w1 ⟨rfl,hb1⟩
 have ado:=hide (uh qp _ _ (uh HX0) hb1)
 clear hb1
 go_wp2
 go_loopg [12] code.length (fun g i' wr=>∃(i:Nat),i<=code.length∧g=code.length-i∧i'=.int .i64 i∧(∀j (hj:j<code.length),j<i->Pg k code[j]=true)∧BX wr)
 case atStart=>exact⟨0,Nat.zero_le _,by omega,rfl,fun j _ hj=>absurd hj (Nat.not_lt_zero _),uh ado⟩
 case round =>
  obtain⟨i,hi,hg,rfl,hno,hbx⟩:=hrel
  rename World=>wr
  have HG:=hide hg
  have uw:=hide hno
  have Fa:=hide hbx
  have hsz:=uh Ky _ hbx
  clear hg hno
  by_cases hlt:i<code.length
  ·obtain⟨b,o,cs,ql,_,hb,hcs,hc0,hR⟩:=uh HVX i hlt
   subst ql
   have hc:∀j (hj:j<cs.length),wr.cell? ⟨b,o+i*3+j,none⟩=some cs[j]:=fun j hj=>by rw[(uh mg _ hbx).cell (p:=⟨b,_,none⟩) hb];exact hc0 j hj
   obtain⟨rfl,hsn,ho,hvl⟩:=hR
   have q0:=hc 0 (by simp)
   have q1:=hc 1 (by simp)
   have q2:=hc 2 (by simp)
   simp only[Nat.add_zero,List.getElem_cons_zero,List.getElem_cons_succ] at q0 q1 q2
   have hbz:b<wr.heap.size:=Nat.lt_of_lt_of_le hb (uh mg _ hbx).size
   have HIT:Hid (Pg k code[i]=(!(decide (20<code[i].op)&&code[i].op != 25)&&(code[i].op != 3||inB (varsOf k) code[i].name)&&(code[i].op != 25||decide (0<=code[i].val∧code[i].val<(k.aj.length:Int))))):=rfl
   have HN:Hid (Pg k code[i]=false->R=false):=fun h=>(uh HR).trans (Ul i hlt h)
   have HY:Hid (Pg k code[i]=true->∀j (hj:j<code.length),j<i+1->Pg k code[j]=true):=fun h j hj hji=>by
    by_cases e:j=i
    ·subst e;exact h
    ·exact uh uw j hj (by omega)
   have HB4:Hid (∀w',Below wr.heap.size wr w'->BX w'):=fun w' h=>uh qp _ _ hbx h
   have hal:Below wr.heap.size wr (wr.alloc (.cells #[.int .i64 code[i].op,.int .i64 code[i].val,.string code[i].name] 141)):=(Below.refl _ _).alloc (Nat.le_refl _) _
   obtain⟨wq,hwq⟩:∃wq,wq=wr.alloc (.cells #[.int .i64 code[i].op,.int .i64 code[i].val,.string code[i].name] 141):=⟨_,rfl⟩
   have hBI:au wq wr.heap.size 141 #[.int .i64 code[i].op,.int .i64 code[i].val,.string code[i].name]:=by rw[hwq];exact jl _ _ _
   rw[←hwq] at hal
   have HAL:=hide hal
   have hbq:=uh qp _ _ hbx hal
   have Du:=hide hbq
   obtain⟨s0,s1,s2,s3,s4,s5,s6⟩:=uh yg wq hbq
   have y0:=hBI.cell (i:=0) (v:=.int .i64 code[i].op) rfl
   have y1:=hBI.cell (i:=1) (v:=.int .i64 code[i].val) rfl
   have y2:=hBI.cell (i:=2) (v:=.string code[i].name) rfl
   have HBI:=hide hBI
   have hlt':(i:Int)<(code.length:Int):=by omega
   generalize Pg k code[i]=mi at *
   clear hc hc0 hcs hsn ho hvl hal hbq hBI hbx
   generalize code[i].op=op at *
   generalize code[i].val=vl at *
   generalize code[i].name=nm at *
   have HQB:Hid (Below w.heap.size w wq):=uh mg _ (uh Du)
   have HQn:Hid (∀n,BX (wq.drewN n)∧Below w.heap.size w (wq.drewN n)):=fun n=>by
    have h:BX (wq.drewN n):=uh qp _ _ (uh Du) ⟨rfl,rfl,rfl,Nat.le_refl _,fun _ _=>rfl⟩
    exact⟨h,uh mg _ h⟩
   by_cases hA:20<op∧op≠25
   ·have e1:decide (20<op)=true:=decide_eq_true hA.1
    have e2:(op != 25)=true:=by simpa using hA.2
    have HF:=hide (uh HN (by rw[uh HIT,e1,e2];rfl))
    clear hA HN HY HIT
    have Po:=HQB
    rw[hwq] at Po
    clear hwq
    go_wp2
    go_ret
    exact⟨jf (uh HF).symm,uh Po⟩
   have e12:(decide (20<op)&&op != 25)=false:=by
    by_cases h:20<op
    ·have:op=25:=by omega
     simp[this]
    ·simp[h]
   rw[e12,Bool.not_false,Bool.true_and] at HIT
   by_cases h3:op=3
   ·have y3:(op == 3)=true:=by simp[h3]
    have y3':(op != 3)=false:=by simp[h3]
    have y5:(op != 25)=true:=by simp[h3]
    have y5':(op == 25)=false:=by simp[h3]
    have e1:decide (20<op)=false:=decide_eq_false (by omega)
    rw[y3',y5,Bool.false_or,Bool.true_or,Bool.and_true] at HIT
    have HVd:Hid (Calls Tryz.prog 47 #[.agg #[.string k.name,.slice b1 k.ins.length c1,.slice b2 k.outs.length c2,.slice b3 k.ay.length c3,.slice b4 k.aj.length c4,.slice b5 k.insts.length c5,.slice b6 k.body.length c6]] wq.drew fun e w''=>∃a c,e=.returned (.slice a (varsOf k).length c)∧BX w''∧Hid (Calls Tryz.prog 76 #[.slice a (varsOf k).length c,.string nm] w'' fun e w3=>e=.returned (.bool (inB (varsOf k) nm))∧BX w3∧w3.cell? ⟨wr.heap.size,0,none⟩=some (.int .i64 op)∧w3.cell? ⟨wr.heap.size,2,none⟩=some (.string nm)∧w3.cell? ⟨w.heap.size,0,none⟩=some (.string k.name)∧w3.cell? ⟨w.heap.size,1,none⟩=some (.slice b1 k.ins.length c1)∧w3.cell? ⟨w.heap.size,2,none⟩=some (.slice b2 k.outs.length c2)∧w3.cell? ⟨w.heap.size,3,none⟩=some (.slice b3 k.ay.length c3)∧w3.cell? ⟨w.heap.size,4,none⟩=some (.slice b4 k.aj.length c4)∧w3.cell? ⟨w.heap.size,5,none⟩=some (.slice b5 k.insts.length c5)∧w3.cell? ⟨w.heap.size,6,none⟩=some (.slice b6 k.body.length c6))∧w''.cell? ⟨wr.heap.size,0,none⟩=some (.int .i64 op)∧w''.cell? ⟨wr.heap.size,2,none⟩=some (.string nm)∧w''.cell? ⟨w.heap.size,0,none⟩=some (.string k.name)∧w''.cell? ⟨w.heap.size,1,none⟩=some (.slice b1 k.ins.length c1)∧w''.cell? ⟨w.heap.size,2,none⟩=some (.slice b2 k.outs.length c2)∧w''.cell? ⟨w.heap.size,3,none⟩=some (.slice b3 k.ay.length c3)∧w''.cell? ⟨w.heap.size,4,none⟩=some (.slice b4 k.aj.length c4)∧w''.cell? ⟨w.heap.size,5,none⟩=some (.slice b5 k.insts.length c5)∧w''.cell? ⟨w.heap.size,6,none⟩=some (.slice b6 k.body.length c6)):=by
     have hdq:Below wq.heap.size wq wq.drew:=(Below.refl _ wq).drew
     refine(uh HVR wq.drew ((uh HQB).trans (hdq.mono (uh HQB).size))).mono ?_
     rintro e w'' ⟨vv,rfl,X6,hb1⟩
     have h8:Below wq.heap.size wq w'':=hdq.trans hb1
     have hx8:=uh qp _ _ (uh Du) h8
     obtain⟨a,c,rfl⟩:=X6.shape
     have u0:w''.cell? ⟨wr.heap.size,0,none⟩=some (.int .i64 op):=by rw[h8.cell (p:=⟨wr.heap.size,_,none⟩) (uh HBI).lt];exact y0
     have u2:w''.cell? ⟨wr.heap.size,2,none⟩=some (.string nm):=by rw[h8.cell (p:=⟨wr.heap.size,_,none⟩) (uh HBI).lt];exact y2
     refine⟨a,c,rfl,hx8,?_,u0,u2,uh yg w'' hx8⟩
     show Calls Tryz.prog 76 _ w'' _
     refine(Za (varsOf k) _ nm w'' X6).mono ?_
     rintro e w3 ⟨rfl,rfl⟩
     exact⟨rfl,hx8,u0,u2,uh yg _ hx8⟩
    have hop:op=3:=h3
    clear h3 hA e12
    generalize inB (varsOf k) nm=ib at *
    generalize (varsOf k).length=vl2 at *
    cases ib
    ·have HF:=hide (uh HN (uh HIT))
     clear HN HY HIT hop
     go_wp2_with fail
     rw[←hwq]
     clear hwq
     go_region_held3 (fun w'=>w'.cell? ⟨wr.heap.size,0,none⟩=some (.int .i64 op)∧w'.cell? ⟨wr.heap.size,2,none⟩=some (.string nm)∧w'.cell? ⟨w.heap.size,0,none⟩=some (.string k.name)∧w'.cell? ⟨w.heap.size,1,none⟩=some (.slice b1 k.ins.length c1)∧w'.cell? ⟨w.heap.size,2,none⟩=some (.slice b2 k.outs.length c2)∧w'.cell? ⟨w.heap.size,3,none⟩=some (.slice b3 k.ay.length c3)∧w'.cell? ⟨w.heap.size,4,none⟩=some (.slice b4 k.aj.length c4)∧w'.cell? ⟨w.heap.size,5,none⟩=some (.slice b5 k.insts.length c5)∧w'.cell? ⟨w.heap.size,6,none⟩=some (.slice b6 k.body.length c6)) (go_keep) (first|(go_at_call 47;refine(uh HVd).mono ?_;rintro e w5 ⟨a5,c5',rfl,hB5,HI5,t0,t1,t2,t3,t4,t5,t6,t7,t8⟩;clear HVd)|(go_at_call 76;refine(uh HI5).mono ?_;rintro e w6 ⟨rfl,Va,z0,z1,z2,z3,z4,z5,z6,z7,z8⟩;clear HI5))
     have Oa:=hide (uh mg _ Va)
     go_wp2
     go_ret
     exact⟨jf (uh HF).symm,uh Oa⟩
    ·have Dp:=hide (uh HY (uh HIT))
     clear HN HY HIT hop
     go_wp2_with fail
     rw[←hwq]
     clear hwq
     go_region_held3 (fun w'=>w'.cell? ⟨wr.heap.size,0,none⟩=some (.int .i64 op)∧w'.cell? ⟨wr.heap.size,2,none⟩=some (.string nm)∧w'.cell? ⟨w.heap.size,0,none⟩=some (.string k.name)∧w'.cell? ⟨w.heap.size,1,none⟩=some (.slice b1 k.ins.length c1)∧w'.cell? ⟨w.heap.size,2,none⟩=some (.slice b2 k.outs.length c2)∧w'.cell? ⟨w.heap.size,3,none⟩=some (.slice b3 k.ay.length c3)∧w'.cell? ⟨w.heap.size,4,none⟩=some (.slice b4 k.aj.length c4)∧w'.cell? ⟨w.heap.size,5,none⟩=some (.slice b5 k.insts.length c5)∧w'.cell? ⟨w.heap.size,6,none⟩=some (.slice b6 k.body.length c6)) (go_keep) (first|(go_at_call 47;refine(uh HVd).mono ?_;rintro e w5 ⟨a5,c5',rfl,hB5,HI5,t0,t1,t2,t3,t4,t5,t6,t7,t8⟩;clear HVd)|(go_at_call 76;refine(uh HI5).mono ?_;rintro e w6 ⟨rfl,Va,z0,z1,z2,z3,z4,z5,z6,z7,z8⟩;clear HI5))
     have Oa:=hide Va
     go_wp2
     go_roundg (code.length-(i+1))
     case measure=>have:=uh HG;omega
     case rel=>exact⟨i+1,by omega,rfl,by go_num,uh Dp,uh Oa⟩
   have y3:(op == 3)=false:=by simp[h3]
   have y3':(op != 3)=true:=by simp[h3]
   rw[y3',Bool.true_or,Bool.true_and] at HIT
   clear h3
   by_cases Jd:op=25
   ·have y5:(op == 25)=true:=by simp[Jd]
    have y5':(op != 25)=false:=by simp[Jd]
    have e1:decide (20<op)=true:=decide_eq_true (by omega)
    rw[y5',Bool.false_or] at HIT
    clear Jd hA e12
    by_cases hv0:vl<0
    ·have f1:decide (vl<0)=true:=decide_eq_true hv0
     have HF:=hide (uh HN (by rw[uh HIT,decide_eq_false_iff_not];omega))
     clear HN HY HIT
     go_wp2_with fail
     rw[←hwq]
     clear hwq
     go_quiet ((fail))
     go_wp2
     go_ret
     exact⟨jf (uh HF).symm,(uh HQn _).2⟩
    have f1:decide (vl<0)=false:=decide_eq_false hv0
    by_cases hvm:(k.aj.length:Int)<=vl
    ·have f2:decide ((k.aj.length:Int)<=vl)=true:=decide_eq_true hvm
     have HF:=hide (uh HN (by rw[uh HIT,decide_eq_false_iff_not];omega))
     clear HN HY HIT
     go_wp2_with fail
     rw[←hwq]
     clear hwq
     go_quiet ((fail))
     go_wp2
     go_ret
     exact⟨jf (uh HF).symm,(uh HQn _).2⟩
    ·have f2:decide ((k.aj.length:Int)<=vl)=false:=decide_eq_false hvm
     have Dp:=hide (uh HY (by rw[uh HIT,decide_eq_true_iff];omega))
     clear HN HY HIT
     go_wp2_with fail
     rw[←hwq]
     clear hwq
     go_quiet ((fail))
     go_wp2
     go_roundg (code.length-(i+1))
     case measure=>have:=uh HG;omega
     case rel=>exact⟨i+1,by omega,rfl,by go_num,uh Dp,(uh HQn _).1⟩
   ·have y5:(op == 25)=false:=by simp[Jd]
    have y5':(op != 25)=true:=by simp[Jd]
    have e1:decide (20<op)=false:=decide_eq_false (by omega)
    rw[y5',Bool.true_or] at HIT
    have Dp:=hide (uh HY (uh HIT))
    clear HN HY HIT Jd hA e12
    go_wp2_with fail
    rw[←hwq]
    clear hwq
    go_quiet ((fail))
    go_wp2
    go_roundg (code.length-(i+1))
    case measure=>have:=uh HG;omega
    case rel=>exact⟨i+1,by omega,rfl,by go_num,uh Dp,(uh HQn _).1⟩
  ·have e:i=code.length:=by omega
   subst e
   have HF:Hid (R=true):=(uh HR).trans (Qa (fun j hj=>uh uw j hj hj))
   have HB:=hide (uh mg _ hbx)
   go_wp2
   go_ret
   exact⟨jf (uh HF).symm,uh HB⟩
end Go.Proofs.YtlcgnbcgmljpaaaGreat
