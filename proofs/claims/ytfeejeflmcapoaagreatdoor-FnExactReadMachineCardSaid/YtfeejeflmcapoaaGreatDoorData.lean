import Derived.WalkKit
import Derived.WalkSpells
import Derived.Deep.OwnRows
import Derived.Test.YtfeejeflmcapoaaGreatDoorProg
import Derived.WalkLawsBesides
import Derived.Deep.LoopGhost
import Derived.Lib.ConvBytes
set_option linter.unusedSimpArgs false
set_option linter.unusedVariables false
set_option maxHeartbeats 1000000
namespace Go.Proofs.YtfeejeflmcapoaaGreatDoor
open Go.RowKit
theorem gu:∀(n:Nat), n<=n := @Nat.le_refl
theorem iy:∀{p:Prop} [inst:Decidable p], ¬p->decide p=false := @decide_eq_false
theorem bf:∀{c:Prop} {h:Decidable c}, ¬c->∀{α:Sort _} {t e:α}, (if c then t else e)=e := @if_neg
theorem jy:∀{α:Type _} {l:List α} {i:Nat} (h:i<l.length), l[i]?=some l[i] := @List.getElem?_eq_getElem
theorem iq:∀(B:Nat) (w:World), RowKit.Below B w w := @Below.refl
theorem jh:∀{α:Type _} {xs bs:List α}, (xs++bs).length=xs.length+bs.length := @List.length_append
theorem og:∀{α:Type _} (a:α) (xs:List α) (h:0<(a::xs).length), (a::xs)[0]=a := @List.getElem_cons_zero
theorem jf:∀{p:Prop} [inst:Decidable p], p->decide p=true := @decide_eq_true
theorem su:∀{α:Type _} [inst:BEq α] [LawfulBEq α] {a b:α}, (a==b)=false↔a≠b := @beq_eq_false_iff_ne
theorem ji:∀(n:Nat), n+0=n := @Nat.add_zero
theorem qg:∀{n m k:Nat}, n<m->m<=k->n<k := @Nat.lt_of_lt_of_le
theorem xq:∀{α:Type _} {a:α}, ¬a∈[] := @List.not_mem_nil
theorem jg:∀(n:Nat), 0<=n := @Nat.zero_le
theorem gy:∀{c:Prop} {h:Decidable c}, c->∀{α:Sort _} {t e:α}, (if c then t else e)=t := @if_pos
theorem qj:∀{α:Type _} {b:α} {l:List α} {a:α}, a∈b::l↔a=b\/a∈l := @List.mem_cons
theorem ku:∀{n m k:Nat}, n<=m->m<=k->n<=k := @Nat.le_trans
theorem o7:∀{α:Type _} {l:List α} {n:Nat} (h:n<l.length), l[n]∈l := @List.getElem_mem
theorem jr:∀(n:Nat), n*1=n := @Nat.mul_one
theorem yw:∀{α:Type _} {l:List α} {i:Nat} {a:α}, l.getD i a=l[i]?.getD a := @List.getD_eq_getElem?_getD
theorem qw:∀(a:Option Addr) (len cap:Nat) (a_1:Option Addr) (a2y a2z:Nat), (Value.slice a len cap=Value.slice a_1 a2y a2z)=(a=a_1/\len=a2y/\cap=a2z) := @Value.slice.injEq
theorem uw:∀{α:Type _} (val ai3:α), (some val=some ai3)=(val=ai3) := @Option.some.injEq
theorem ug:∀{α:Type _} {a:α} {xs:List α}, (a::xs).length=xs.length+1 := @List.length_cons
theorem yt:∀{α:Type _} {a b:α}, a∈[b]↔a=b := @List.mem_singleton
theorem uy:∀(a b:Bool), ((a&&b)=true)=(a=true/\b=true) := @Bool.and_eq_true
theorem Eu:∀{α:Type _} {i:Nat} {l:List α} (h:i<l.length), List.take (i+1) l=List.take i l++[l[i]] := @List.take_succ_eq_append_getElem
theorem xw:∀{p:Prop} [inst:Decidable p], decide p=true->p := @of_decide_eq_true
theorem zf:∀(w:World) (a:Addr) (u:Value) (k:Nat), k≠a.block->(w.setCell a u).heap[k]?=w.heap[k]? := @Below.heap_setCell
theorem Gt:∀{α:Type _} [inst:BEq α] {a:α} {l₁ l₂:List α}, List.count a (l₁++l₂)=List.count a l₁+List.count a l₂ := @List.count_append
theorem zu:∀{w:World} (c:Array Value) (t:TypeId) (n i:Nat), n=w.heap.size->(w.alloc (Obj.cells c t)).cell? { block := n, off := i }=c[i]? := @World.cell?_alloc_at
theorem uz:∀{m n:Nat}, m∈List.range n↔m<n := @List.mem_range
theorem yu:∀(n:Nat), ¬n<0 := @Nat.not_lt_zero
theorem yc:∀{α:Type _} {p:α->Bool} {l:List α}, l.all p=true↔∀(x:α), x∈l->p x=true := @List.all_eq_true
theorem Aq:∀{α:Type _} (xs:List α), xs++[]=xs := @List.append_nil
theorem E5:∀{α:Type _} {l:List α}, 0<l.length↔l≠[] := @List.length_pos_iff
theorem xu:∀(p:Prop), (p\/False)=p := @or_false
theorem zy:∀{α:Type _} {β:Type _} {xs:List α} (f:α->β), (List.map f xs).length=xs.length := @List.length_map
theorem D8:∀{p:Prop} [inst:Decidable p], decide p=true↔p := @decide_eq_true_iff
theorem Aw:∀(b:Bool), (false&&b)=false := @Bool.false_and
theorem Qw:∀(n:Int), IntKind.i64.wrap n=(n+9223372036854775808) % 18446744073709551616-9223372036854775808 := @IntKind.wrap_i64
theorem Cc:∀{α:Type _} {i:Nat} {l:List α}, (List.drop i l).length=l.length-i := @List.length_drop
theorem Ak:∀(b:Bool), (true&&b)=b := @Bool.true_and
theorem Dw:∀{α:Type _} {l:List α}, List.take l.length l=l := @List.take_length
theorem Az:∀{w:World} {base:Nat} {e:TypeId} {size:Nat} {v:Value} {n:Nat} {xs:List Value}, w.ownsRow base e size v n xs->∀(k:Nat), v.ownBlock=some k->base<=k/\k<w.heap.size := @World.ownsRow.lt
theorem Dx:∀{α:Type _} {a:α} {s t:List α}, a∈s++t↔a∈s\/a∈t := @List.mem_append
theorem Dy:∀(w:World) (o:Obj), (w.alloc o).heap.size=w.heap.size+1 := @World.size_alloc
theorem Gu:∀{α:Type _} (y:α) {a:α} {l:List α}, a∈l->a∈y::l := @List.mem_cons_of_mem
theorem Kv:∀{α:Type _} {i:Nat} {b:α} {xs:Array α}, xs[i]?=some b↔∃h, xs[i]=b := @Array.getElem?_eq_some_iff
theorem Jh:∀(w:World) (a:Addr) {u:Value}, w.cell? a=some u->a.block<w.heap.size := @World.block_lt_of_cell?
theorem Ba:∀(n:Nat), 0+n=n := @Nat.zero_add
theorem Ai:∀{α:Type _} {β:Type _} {f:α->β} {a:α} {l:List α}, List.map f (a::l)=f a::List.map f l := @List.map_cons
theorem Hr:∀{α:Type _} {a:α} {l:List α}, a∈a::l := @List.mem_cons_self
theorem Ew:∀{α:Type _} {a:α} {xs bs:List α}, a::xs++bs=a::(xs++bs) := @List.cons_append
theorem Gl:∀{α:Type _} (xs bs cs:List α), xs++bs++cs=xs++(bs++cs) := @List.append_assoc
theorem Nh:∀{p:Prop} {x:Decidable p}, decide p=false↔¬p := @decide_eq_false_iff_not
theorem Gm:∀{α:Type _} (xs:List α), []++xs=xs := @List.nil_append
theorem Ji:∀{α:Type _} [inst:BEq α] [LawfulBEq α] {a b:α}, (a != b)=false↔a=b := @bne_eq_false_iff_eq
theorem Sj:∀{α:Type _} {l:List α}, l.length=0->l=[] := @List.eq_nil_of_length_eq_zero
theorem N9:∀{α:Type _} {a:α}, [a].length=1 := @List.length_singleton
theorem Gv:∀{α:Type _} {val ai3:α}, some val=some ai3->val=ai3 := @Option.some.inj
theorem Yw:∀{α:Type _} {L₁ L₂:List (List α)}, (L₁++L₂).flatten=L₁.flatten++L₂.flatten := @List.flatten_append
theorem Kw:∀{α:Type _} {a b:α}, (some a).getD b=a := @Option.getD_some
theorem O8:∀{α:Type _} (i:Nat) (l:List α), List.take i l++List.drop i l=l := @List.take_append_drop
theorem Fv:∀{α:Type _} {β:Type _} {f:α->β}, List.map f []=[] := @List.map_nil
theorem P8:∀{α:Type _} {i:Nat} {l:List α}, l.length<=i->List.take i l=l := @List.take_of_length_le
theorem adh:∀{α:Type _} {l:List α} {L:List (List α)}, (l::L).flatten=l++L.flatten := @List.flatten_cons
theorem Ig:∀{α:Type _} {β:Type _} {f:α->β} {l₁ l₂:List α}, List.map f (l₁++l₂)=List.map f l₁++List.map f l₂ := @List.map_append
theorem Ju:∀{α:Type _} {β:Type _} {f:β->α->β} {b:β} {l l':List α}, List.foldl f b (l++l')=List.foldl f (List.foldl f b l) l' := @List.foldl_append
theorem Oa:∀{a b:Bool}, a=b↔(a=true↔b=true) := @Bool.eq_iff_iff
theorem Nj:∀{α:Type _} {l:List α}, List.take 0 l=[] := @List.take_zero
theorem Nk:∀{α:Type _} {i:Nat} {l:List α}, (List.take i l).length=Min.min i l.length := @List.length_take
theorem Qx:∀{α:Type _} {i:Nat} {xs bs:List α} (h:i<xs.length) {h':i<(xs++bs).length}, (xs++bs)[i]=xs[i] := @List.getElem_append_left
theorem Us:∀{α:Type _} {l₁ l₂:List α} {i:Nat}, l₁.length<=i->(l₁++l₂)[i]?=l₂[i-l₁.length]? := @List.getElem?_append_right
theorem Ey:∀{α:Type _} [inst:BEq α] [LawfulBEq α] {a b:α}, (a==b)=true↔a=b := @beq_iff_eq
theorem ni:∀{α:Sort _} {β:Sort _} {a₁ a₂:α} (f:α->β), a₁=a₂->f a₁=f a₂ := @congrArg
theorem Sl:∀(n:Nat), n<n.succ := @Nat.lt_succ_self
theorem Xa:∀{m:Nat} (n:Nat), 0<m->n<=n*m := @Nat.le_mul_of_pos_right
theorem ou:∀{α:Type _} (a:α) (l:List α) (i:Nat) (h:i+1<(a::l).length), (a::l)[i+1]=l[i]'(Nat.lt_of_succ_lt_succ h) := @List.getElem_cons_succ
theorem Ht:∀{a:Int}, 0<=a->∃n:Nat, a=n := @Int.eq_ofNat_of_zero_le
theorem Ed:∀(n:Nat), (n:Int).toNat=n := @Int.toNat_natCast
theorem Ar:∀{α:Type _}, ([]:List α).length=0 := @List.length_nil
abbrev dh := ByteArray
abbrev cu := World
theorem o8 {α:Type _} (x:α):∃z, z=x := ⟨x, rfl⟩
theorem ak {p:Prop} (h:p):Hid p:=h
theorem uh {p:Prop} (h:Hid p):p:=h
structure l9 where
 op:Int
 val:Int
 name:dh
def I64 (x:Int):Prop:=-9223372036854775808<=x/\x<=9223372036854775807
def Len (n:Nat):Prop:=n<=140737488355328
def Kept (lo hi:Nat) (w w':cu):Prop:=w.heap.size<=w'.heap.size/\∀k,lo<=k->k<hi->w'.heap[k]?=w.heap[k]?
theorem Kept.of_below {lo B:Nat} {w w':cu} (h:Below B w w'):Kept lo B w w':=⟨h.size,fun k _ hk=>h.block k hk⟩
theorem Kept.cell {lo hi:Nat} {w w':cu} (h:Kept lo hi w w') {p:Addr} (h1:lo<=p.block) (h2:p.block<hi):w'.cell? p=w.cell? p:=World.cell?_of_block (w:=w) (h.2 p.block h1 h2)
theorem Kept.refl (lo hi:Nat) (w:cu):Kept lo hi w w:=⟨gu _,fun _ _ _=>rfl⟩
theorem Kept.setCell {lo hi:Nat} {w w':cu} (h:Kept lo hi w w') {p:Addr} (hp:p.block<lo) (u:Value):Kept lo hi w (w'.setCell p u) :=
 ⟨by simpa[World.setCell] using h.1,fun k h1 h2=>by rw[zf _ _ _ _ (by omega)];exact h.2 k h1 h2⟩
def jc {α:Type} (sz uf:Nat) (R:Nat->cu->List Value->α->Prop) (lo:Nat) (w:cu) (v:Value) (xs:List α):Prop :=
 ∃a cap,v=.slice a xs.length cap/\(Len (xs.length*uf)/\xs.length<=cap)/\Len xs.length/\∀i (h:i<xs.length),∃b o cs,a=some ⟨b,o,none⟩/\lo<=b/\b<w.heap.size/\cs.length=sz /\
  (∀j (hj:j<cs.length),w.cell? ⟨b,o+i*sz+j,none⟩=some cs[j])/\R lo w cs xs[i]
def P9 {α:Type} (R:Nat->cu->List Value->α->Prop):Prop:=∀lo w w' cs x,Kept lo w.heap.size w w'->R lo w cs x->R lo w' cs x
def bbo {α:Type} (R:Nat->cu->List Value->α->Prop):Prop:=∀lo w w' cs x,Below w.heap.size w w'->R lo w cs x->R lo w' cs x
def Lowers {α:Type} (R:Nat->cu->List Value->α->Prop):Prop:=∀lo lo' w cs x,lo'<=lo->R lo w cs x->R lo' w cs x
theorem P9.stays {α:Type} {R:Nat->cu->List Value->α->Prop} (h:P9 R):bbo R:=fun _ _ _ _ _ hb hr=>h _ _ _ _ _ (Kept.of_below hb) hr
theorem jc.kept {α:Type} {sz uf lo:Nat} {R:Nat->cu->List Value->α->Prop} (hR:P9 R) {w w':cu} {v:Value} {xs:List α} (hb:Kept lo w.heap.size w w') (h:jc sz uf R lo w v xs):jc sz uf R lo w' v xs:=by
 obtain⟨a,cap,rfl,hl,hl2,h⟩:=h;refine⟨a,cap,rfl,hl,hl2,fun i hi=>?_⟩;obtain⟨b,o,cs,ha,hlo,hbl,hcs,hc,hr⟩:=h i hi;exact⟨b,o,cs,ha,hlo,qg hbl hb.1,hcs,fun j hj=>by rw[hb.cell (p:=⟨b,_,none⟩) hlo hbl];exact hc j hj,hR _ _ _ _ _ hb hr⟩
theorem jc.shape {α:Type} {sz uf lo:Nat} {R:Nat->cu->List Value->α->Prop} {w:cu} {v:Value} {xs:List α} (h:jc sz uf R lo w v xs):∃a cap,v=.slice a xs.length cap:=by
 obtain⟨a,cap,hv,_⟩:=h;exact⟨a,cap,hv⟩
theorem jc.stays {α:Type} {sz uf lo:Nat} {R:Nat->cu->List Value->α->Prop} (hR:P9 R) {w w':cu} {v:Value} {xs:List α} (hb:Below w.heap.size w w') (h:jc sz uf R lo w v xs):jc sz uf R lo w' v xs:=h.kept hR (Kept.of_below hb)
theorem jc.lower {α:Type} {sz uf lo lo':Nat} {R:Nat->cu->List Value->α->Prop} (hR:Lowers R) {w:cu} {v:Value} {xs:List α} (hl:lo'<=lo) (h:jc sz uf R lo w v xs):jc sz uf R lo' w v xs:=by
 obtain⟨a,cap,rfl,hl1,hl2,h⟩:=h;refine⟨a,cap,rfl,hl1,hl2,fun i hi=>?_⟩;obtain⟨b,o,cs,ha,hlo,hbl,hcs,hc,hr⟩:=h i hi;exact⟨b,o,cs,ha,ku hl hlo,hbl,hcs,hc,hR _ _ _ _ _ hl hr⟩
def xk (_:Nat) (_:cu) (cs:List Value) (s:dh):Prop:=cs=[.string s]/\Len s.size
def Gg (_:Nat) (_:cu) (cs:List Value) (t:l9):Prop:=cs=[.int .i64 t.op,.int .i64 t.val,.string t.name]/\Len t.name.size/\I64 t.op/\I64 t.val
def Ih (lo:Nat) (w:cu) (cs:List Value) (l:List l9):Prop:=∃v,cs=[v]/\jc 3 32 Gg lo w v l
def Jv (_:Nat) (_:cu) (cs:List Value) (x:Int):Prop:=cs=[.int .i64 x]/\I64 x
theorem E8:P9 Jv:=fun _ _ _ _ _ _ h=>h
theorem zk:P9 xk:=fun _ _ _ _ _ _ h=>h
theorem Ad:P9 Gg:=fun _ _ _ _ _ _ h=>h
theorem I8:P9 Ih:=fun _ _ _ _ _ hb ⟨v,h1,h2⟩=>⟨v,h1,h2.kept Ad hb⟩
theorem Xb:Lowers xk:=fun _ _ _ _ _ _ h=>h
def pz {α:Type} (f:α->Nat) (xs:List α):Nat:=xs.length+(xs.map f).sum
def Gh (t:l9):Nat:=t.name.size
def Qp (s:dh):Nat:=s.size
def Vd {α:Type} (f:α->Nat) (xs:List α) (k:Nat):Nat:=((xs.take k).map f).sum
theorem aaq {P:Program} (t e:TypeId) (z:Value) (size bytes:Nat) (ht:P.underlying t=some (.slice e)) (hinfo:(P.info? e).map (fun i=>(i.zero,i.size,i.bytes))=some (some z,size,bytes)) (n:Nat) (hb:n*bytes<=140737488355328) (hn:n<=140737488355328) (w:cu) :
  (Instr.makeSlice t (.int .i64 (n:Int)) (.int .i64 (n:Int))).run P w=.ok (.slice (some ⟨w.heap.size,0,none⟩) n n) (w.alloc (.cells (madeCells z.cells (n*size)) e)):=by
 obtain⟨i,hi,hzz⟩:=Option.map_eq_some_iff.1 hinfo;simp only[Prod.mk.injEq] at hzz;obtain⟨hz,hs,hbt⟩:=hzz
 have hb':(i.bytes:Int)*(n:Int)<=281474976710656:=by
  have h:((i.bytes*n:Nat):Int)<=281474976710656:=by rw[hbt,Nat.mul_comm];omega
  rwa[Int.natCast_mul] at h
 have hr:=run_make (P:=P) w t e i z ht hi hz .i64 .i64 n n (by omega) (Int.le_refl _) hb' (by omega);simp only[Ed,hs] at hr;exact hr
def Nc (w:cu) (b:Nat) (n:Nat):Prop:=∃c t,w.heap[b]?=some (.cells c t (0,0))/\c.size=n
theorem Nc.lt {w:cu} {b n:Nat} (h:Nc w b n):b<w.heap.size:=by
 obtain⟨c,t,hb,_⟩:=h;exact(Kv.1 hb).1
theorem Nc.cell {w:cu} {b n:Nat} (h:Nc w b n) {i:Nat} (hi:i<n):∃u,w.cell? ⟨b,i,none⟩=some u:=by
 obtain⟨c,t,hb,hn⟩:=h;exact⟨c[i],by simp[World.cell?,hb,hn,hi]⟩
theorem Nc.frozen {w:cu} {b n:Nat} (h:Nc w b n) (i:Nat):w.frozen? ⟨b,i,none⟩=false:=by
 obtain⟨c,t,hb,_⟩:=h;simp[World.frozen?,hb]
theorem Nc.below {w w':cu} {b n:Nat} (h:Nc w b n) (hb:Below w.heap.size w w'):Nc w' b n:=by
 have hlt:=h.lt;obtain⟨c,t,hc,hn⟩:=h;exact⟨c,t,(hb.block b hlt).trans hc,hn⟩
theorem Nc.set {w:cu} {b n:Nat} (h:Nc w b n) (i:Nat) (u:Value):Nc (w.setCell ⟨b,i,none⟩ u) b n:=by
 obtain⟨c,t,hc,hn⟩:=h;exact⟨c.setIfInBounds i u,t,by simp[World.setCell,Array.getElem?_modify,hc],by simpa using hn⟩
theorem Nc.made (w:cu) (cs:Array Value) (n:Nat) (t:TypeId):Nc (w.alloc (.cells (madeCells cs n) t)) w.heap.size n :=
 ⟨_,t,Deep.blk_alloc_new _ _,size_madeCells _ _⟩
def afl {α:Type} (sz:Nat) (R:Nat->cu->List Value->α->Prop) (lo:Nat) (w:cu) (b:Nat) (xs:List α) (k:Nat):Prop :=
 ∀i (h:i<xs.length),i<k->∃cs,cs.length=sz/\(∀j (hj:j<cs.length),w.cell? ⟨b,i*sz+j,none⟩=some cs[j])/\R lo w cs xs[i]
theorem aaj {W w1:cu} (hb:Below W.heap.size W w1):(∀b o,b<W.heap.size->w1.cell? ⟨b,o,none⟩=W.cell? ⟨b,o,none⟩)/\(∀b o,b<W.heap.size->w1.frozen? ⟨b,o,none⟩=W.frozen? ⟨b,o,none⟩) :=
 ⟨fun b o h=>hb.cell (p:=⟨b,o,none⟩) h,fun b o h=>hb.frozen (p:=⟨b,o,none⟩) h⟩
def aa6 (c:Int):Bool:=decide ((97<=c/\c<=122)\/(65<=c/\c<=90))
def Ko (c:Int):Bool:=decide (48<=c/\c<=57)
def V5 (c:Int):Bool:=aa6 c||Ko c||c==95
theorem zl {a b:Bool} (h:a=b):Ending.returned (.bool a)=.returned (.bool b):=by rw[h]
theorem Xc (c:Int) (w:cu) (h0:0<=c) (h1:c<=255) :
  Calls Tryz.prog 135 #[.int .u8 c] w fun e w'=>e=.returned (.bool (aa6 c))/\w'=w:=by
 go_enter Tryz.func135,Tryz.ntmps135;go_wp2
 all_goals
  go_ret;refine⟨zl ?_,rfl⟩;unfold aa6;rw[Oa];simp
  try omega
theorem Ug (c:Int) (w:cu) (h0:0<=c) (h1:c<=255) :
  Calls Tryz.prog 50 #[.int .u8 c] w fun e w'=>e=.returned (.bool (Ko c))/\w'=w:=by
 go_enter Tryz.func50,Tryz.ntmps50;go_wp2
 all_goals
  go_ret;refine⟨zl ?_,rfl⟩;unfold Ko;rw[Oa];simp
  try omega
theorem aak (c:Int) (w:cu) (h0:0<=c) (h1:c<=255) :
  Calls Tryz.prog 166 #[.int .u8 c] w fun e w'=>e=.returned (.bool (aa6 c))/\w'=w:=by
 go_enter Tryz.func166,Tryz.ntmps166;go_wp2
 all_goals
  go_ret;refine⟨zl ?_,rfl⟩;unfold aa6;rw[Oa];simp
  try omega
theorem aed (c:Int) (w:cu) (h0:0<=c) (h1:c<=255) :
  Calls Tryz.prog 119 #[.int .u8 c] w fun e w'=>e=.returned (.bool (Ko c))/\w'=w:=by
 go_enter Tryz.func119,Tryz.ntmps119;go_wp2
 all_goals
  go_ret;refine⟨zl ?_,rfl⟩;unfold Ko;rw[Oa];simp
  try omega
theorem amm (c:Int) (w:cu) (h0:0<=c) (h1:c<=255) :
  Calls Tryz.prog 169 #[.int .u8 c] w fun e w'=>e=.returned (.bool (V5 c))/\w'=w:=by
 cases hl:aa6 c<;>cases hd:Ko c
 all_goals
  go_enter Tryz.func169,Tryz.ntmps169;go_wp2_with (first|(go_at_call 166;refine(aak _ _ h0 h1).mono ?_;rintro e w' ⟨rfl,rfl⟩;rw[hl])|(go_at_call 119;refine(aed _ _ h0 h1).mono ?_;rintro e w' ⟨rfl,rfl⟩;rw[hd]))
  go_ret;refine⟨zl ?_,rfl⟩;simp[V5,hl,hd]
def uf (s:dh) (i:Nat):Int:=if h:i<s.size then (s[i].toNat:Int) else 0
theorem Qa {s:dh} {i:Nat} (h:i<s.size):uf s i=(s[i].toNat:Int):=by simp[uf,h]
theorem aal (x:UInt8):0<=(x.toNat:Int)/\(x.toNat:Int)<=255:=by have:=x.toNat_lt;omega
def allB (p:Nat->Bool) (i n:Nat):Bool:=decide (∀j,j<n->i<=j->p j=true)
theorem afm {p:Nat->Bool} {i n:Nat} (h:∀j,j<n->i<=j->p j=true):allB p i n=true:=by simpa[allB] using h
theorem ai4 {p:Nat->Bool} {i n k:Nat} (h1:k<n) (h2:i<=k) (h:p k=false):allB p i n=false:=by
 unfold allB;rw[Nh];intro hh;have:=hh k h1 h2;rw[h] at this
 cases this
def Ir (s:dh):Bool:=decide (2<=s.size/\s.size<=10)&&decide (uf s 0=36)&&!decide (uf s 1=48)&&allB (fun i=>Ko (uf s i)) 1 s.size
theorem ar5 (s:dh) (w:cu) (hs:Len s.size) :
  Calls Tryz.prog 109 #[.string s] w fun e w'=>e=.returned (.bool (Ir s))/\w'=w:=by
 unfold Len at hs
 by_cases h1:s.size<2
 ·have e:Ir s=false:=by simp[Ir];omega
  rw[e];have d1:decide ((s.size:Int)<2)=true:=by simp;omega
  go_enter Tryz.func109,Tryz.ntmps109;go_wp2;go_ret;exact⟨rfl,rfl⟩
 have d1:decide ((s.size:Int)<2)=false:=by simp;omega
 by_cases h2:10<s.size
 ·have e:Ir s=false:=by simp[Ir];omega
  rw[e];have d2:decide (10<(s.size:Int))=true:=by simp;omega
  go_enter Tryz.func109,Tryz.ntmps109;go_wp2;go_ret;exact⟨rfl,rfl⟩
 have d2:decide (10<(s.size:Int))=false:=by simp;omega
 have g0:0<s.size:=by omega
 have g1:1<s.size:=by omega
 have b0:=Qa g0;have b1:=Qa g1
 by_cases h3:(s[0].toNat:Int)=36
 case neg =>
  have e:Ir s=false:=by simp[Ir,b0,h3]
  rw[e];have d3:((s[0].toNat:Int) != 36)=true:=by rw[bne_iff_ne];exact h3
  clear b0 b1 e;go_enter Tryz.func109,Tryz.ntmps109;go_wp2;go_ret;exact⟨rfl,rfl⟩
 have d3:((s[0].toNat:Int) != 36)=false:=by simp[h3]
 by_cases h4:(s[1].toNat:Int)=48
 ·have e:Ir s=false:=by simp[Ir,b1,h4]
  rw[e];have d4:((s[1].toNat:Int)==48)=true:=by simp[h4]
  clear b0 b1 e h3 h4;go_enter Tryz.func109,Tryz.ntmps109;go_wp2;go_ret;exact⟨rfl,rfl⟩
 have d4:((s[1].toNat:Int)==48)=false:=by simp[h4]
 have e:Ir s=allB (fun i=>Ko (uf s i)) 1 s.size:=by
  simp only[Ir,b0,b1,h3,h4];simp;intro h;omega
 rw[e];clear b0 b1 e h3 h4;go_enter Tryz.func109,Tryz.ntmps109;go_wp2
 go_loopg [3] (s.size-1) (fun g i wr=>∃(k:Nat),k<=s.size/\1<=k/\g=s.size-k/\i=.int .i64 k/\wr=w/\∀j,j<k->1<=j->Ko (uf s j)=true)
 case atStart=>exact⟨1,by omega,gu _,by omega,rfl,rfl,fun j h1 h2=>by omega⟩
 case round =>
  obtain⟨k,hk,hk1,hg,rfl,rfl,hall⟩:=hrel;have HG:=ak hg;have HA:=ak hall;clear hg hall
  by_cases hlt:k<s.size
  ·have hbd:=aal s[k]
   cases hd:Ko (s[k].toNat:Int)
   ·have F:allB (fun i=>Ko (uf s i)) 1 s.size=false:=ai4 hlt hk1 (by rw[Qa hlt];exact hd)
    have HF:=ak F;clear F;go_wp2_with (go_at_call 50;refine(Ug _ _ (by omega) (by omega)).mono ?_;rintro e w' ⟨rfl,rfl⟩;rw[hd]);go_ret;exact⟨zl (uh HF).symm,rfl⟩
   ·have A':∀j,j<k+1->1<=j->Ko (uf s j)=true:=by
     intro j h1 h2
     by_cases e:j=k
     ·subst e;rw[Qa hlt];exact hd
     ·exact uh HA j (by omega) h2
    have HA':=ak A';clear A';go_wp2_with (go_at_call 50;refine(Ug _ _ (by omega) (by omega)).mono ?_;rintro e w' ⟨rfl,rfl⟩;rw[hd])
    go_roundg (s.size-(k+1))
    case measure=>have:=uh HG;omega
    case rel=>exact⟨k+1,by omega,by omega,rfl,by go_num,rfl,uh HA'⟩
  ·have e:k=s.size:=by omega
   have T:allB (fun i=>Ko (uf s i)) 1 s.size=true:=afm (by have:=uh HA;rw[e] at this;exact this);have HT:=ak T;clear T;go_wp2;go_ret;exact⟨zl (uh HT).symm,rfl⟩
def putCells (w:cu) (b:Nat):Nat->List Value->cu
 | _,[]=>w
 | i,c::cs=>(putCells w b (i+1) cs).setCell ⟨b,i,none⟩ c
def Yx (w:cu) (b:Nat):Nat->List Value->cu
 | _,[]=>w
 | i,c::cs=>Yx (w.setCell ⟨b,i,none⟩ c) b (i+1) cs
theorem au3 {w:cu} {b n:Nat} (h:Nc w b n) (i:Nat) (cs:List Value):Nc (Yx w b i cs) b n:=by
 induction cs generalizing w i with
 | nil=>exact h
 | cons c cs ih=>exact ih (h.set i c) (i+1)
theorem Ky (w:cu) (b i:Nat) (u:Value) (p:Addr) (h:p.block≠b\/p.off≠i):(w.setCell ⟨b,i,none⟩ u).cell? p=w.cell? p:=by
 simp only[World.cell?,World.setCell,Array.getElem?_modify]
 by_cases hb:p.block=b
 ·have hi:p.off≠i:=by rcases h with h|h;exact absurd hb h;exact h
  subst hb;simp only[if_true]
  cases hh:w.heap[p.block]? with
  | none=>simp
  | some o =>
   cases o with
   | cells c t f =>
    simp[Ne.symm hi]
   | _=>simp
 ·rw[bf (fun h=>hb h.symm)]
theorem alm (w:cu) (b i:Nat) (cs:List Value) (p:Addr) (h:p.block≠b\/p.off<i\/i+cs.length<=p.off):(Yx w b i cs).cell? p=w.cell? p:=by
 induction cs generalizing w i with
 | nil=>rfl
 | cons c cs ih =>
  simp only[Yx];rw[ih _ _ (by simp only[ug] at h;omega)];exact Ky _ _ _ _ _ (by simp only[ug] at h;omega)
theorem amn {w:cu} {b n:Nat} (h:Nc w b n) {i:Nat} (hi:i<n) (u:Value):(w.setCell ⟨b,i,none⟩ u).cell? ⟨b,i,none⟩=some u:=by
 obtain⟨c,t,hb,hn⟩:=h;simp[World.cell?,World.setCell,Array.getElem?_modify,hb,hn,hi]
theorem ayf {w:cu} {b n:Nat} (h:Nc w b n) (i:Nat) (cs:List Value) (hl:i+cs.length<=n) (j:Nat) (hj:j<cs.length):(Yx w b i cs).cell? ⟨b,i+j,none⟩=some cs[j]:=by
 induction cs generalizing w i j with
 | nil=>exact absurd hj (yu _)
 | cons c cs ih =>
  simp only[ug] at hl hj;simp only[Yx]
  cases j with
  | zero =>
   rw[alm _ _ _ _ _ (Or.inr (Or.inl (by simp)))];exact amn h (by omega) c
  | succ j =>
   have:=ih (h.set i c) (i+1) (by omega) j (by omega);rw[show i+(j+1)=i+1+j from by omega];simpa using this
theorem ai5 {lo hi:Nat} {w w':cu} (h:Kept lo hi w w') {b:Nat} (hb:b<lo) (i:Nat) (cs:List Value):Kept lo hi w (Yx w' b i cs):=by
 induction cs generalizing w' i with
 | nil=>exact h
 | cons c cs ih=>exact ih (h.setCell (p:=⟨b,i,none⟩) hb c) (i+1)
theorem apx {B:Nat} {w w':cu} (h:Below B w w') {b:Nat} (hb:B<=b) (i:Nat) (cs:List Value):Below B w (Yx w' b i cs):=by
 induction cs generalizing w' i with
 | nil=>exact h
 | cons c cs ih=>exact ih (h.setCell (p:=⟨b,i,none⟩) hb c) (i+1)
theorem au4 {α:Type} {sz:Nat} {R:Nat->cu->List Value->α->Prop} (hK:P9 R) (hL:Lowers R) {w wr w1:cu} {b:Nat} {xs:List α} {k:Nat} (hlt:k<xs.length) {B:Nat} (hB:B<=b) (hbl:Below B w wr)
  (hrow:Nc wr b (xs.length*sz)) (hfil:afl sz R (b+1) wr b xs k) (hb1:Below wr.heap.size wr w1) {cs:List Value} (hcs:cs.length=sz) (hR:R wr.heap.size w1 cs xs[k]) :
  Below B w (Yx w1 b (k*sz) cs)/\Nc (Yx w1 b (k*sz) cs) b (xs.length*sz)/\afl sz R (b+1) (Yx w1 b (k*sz) cs) b xs (k+1):=by
 have hrow1:=hrow.below hb1;have hblt:=hrow.lt;have hB':B<=wr.heap.size:=by omega
 refine⟨apx (hbl.trans (hb1.mono hB')) hB _ _,au3 hrow1 _ _,fun i hi hik=>?_⟩
 by_cases e:i=k
 ·subst e
  have hfit:i*sz+cs.length<=xs.length*sz:=by
   rw[hcs];have:(i+1)*sz<=xs.length*sz:=Nat.mul_le_mul_right _ hlt;rw[Nat.add_mul] at this;omega
  exact⟨cs,hcs,fun j hj=>ayf hrow1 _ _ hfit j hj,hK _ _ _ _ _ (ai5 (Kept.refl _ _ _) (Sl _) _ _) (hL _ _ _ _ _ (by omega) hR)⟩
 ·obtain⟨cs',hcs',hc',hR'⟩:=hfil i hi (by omega)
  refine⟨cs',hcs',fun j hj=>?_,hK _ _ _ _ _ (ai5 (Kept.of_below hb1) (Sl _) _ _) hR'⟩
  have hlo:i*sz+j<k*sz:=by
   have:(i+1)*sz<=k*sz:=Nat.mul_le_mul_right _ (by omega);rw[Nat.add_mul] at this;omega
  rw[alm _ _ _ _ _ (Or.inr (Or.inl hlo)),hb1.cell (p:=⟨b,_,none⟩) hblt];exact hc' j hj
theorem au5 {α:Type} (sz:Nat) (R:Nat->cu->List Value->α->Prop) (lo:Nat) (w:cu) (b:Nat) (xs:List α):afl sz R lo w b xs 0:=fun _ _ h=>absurd h (yu _)
theorem au6 {α:Type} {sz uf:Nat} {R:Nat->cu->List Value->α->Prop} (hL:Lowers R) {wr:cu} {b:Nat} {xs:List α} (hb:b<wr.heap.size) (h1:Len (xs.length*uf)) (h2:Len xs.length) (hfil:afl sz R (b+1) wr b xs xs.length) :
  jc sz uf R b wr (.slice (some ⟨b,0,none⟩) xs.length xs.length) xs:=by
 refine⟨_,_,rfl,⟨h1,gu _⟩,h2,fun i hi=>?_⟩;obtain⟨cs,hcs,hc,hR⟩:=hfil i hi hi;exact⟨b,0,cs,rfl,gu _,hb,hcs,fun j hj=>by rw[Ba];exact hc j hj,hL _ _ _ _ _ (Nat.le_succ _) hR⟩
def kws:List dh:=[⟨#[110,111,100,101]⟩,⟨#[114,101,116,117,114,110,115]⟩,⟨#[118,97,114]⟩,⟨#[108,101,116]⟩,⟨#[116,101,108]⟩,⟨#[105,110,116]⟩,⟨#[98,111,111,108]⟩,⟨#[119,104,101,110]⟩,⟨#[119,104,101,110,111,116]⟩,⟨#[105,102]⟩,⟨#[116,104,101,110]⟩,⟨#[101,108,115,101]⟩,⟨#[102,98,121]⟩,⟨#[109,101,114,103,101]⟩,⟨#[116,114,117,101]⟩,⟨#[102,97,108,115,101]⟩,⟨#[97,110,100]⟩,⟨#[111,114]⟩,⟨#[120,111,114]⟩,⟨#[110,111,116]⟩,⟨#[109,111,100]⟩]
def kwB (s:dh):Bool:=s.toList==[110,111,100,101]||s.toList==[114,101,116,117,114,110,115]||s.toList==[118,97,114]||s.toList==[108,101,116]||s.toList==[116,101,108]||s.toList==[105,110,116]||s.toList==[98,111,111,108]||s.toList==[119,104,101,110]||s.toList==[119,104,101,110,111,116]||s.toList==[105,102]||s.toList==[116,104,101,110]||s.toList==[101,108,115,101]||s.toList==[102,98,121]||s.toList==[109,101,114,103,101]||s.toList==[116,114,117,101]||s.toList==[102,97,108,115,101]||s.toList==[97,110,100]||s.toList==[111,114]||s.toList==[120,111,114]||s.toList==[110,111,116]||s.toList==[109,111,100]
def inB (l:List dh) (s:dh):Bool:=l.any (fun x=>x.toList==s.toList)
theorem au7:∀x,x∈kws->x.size<=7:=by decide
theorem afh (w:cu) :
  Calls Tryz.prog 136 #[] w fun e w'=>∃v,e=.returned v/\jc 1 16 xk w.heap.size w' v kws/\Below w.heap.size w w':=by
 go_enter Tryz.func136,Tryz.ntmps136;go_wp2;go_ret;refine⟨_,rfl,?_,(iq _ _).alloc (gu _) _⟩;refine⟨_,_,rfl,by simp[Len,kws],by simp[Len,kws],fun i hi=>⟨_,_,[.string kws[i]],rfl,gu _,by simp,rfl,?_,rfl,?_⟩⟩
 ·intro j hj
  have hj0:j=0:=by simpa using hj
  subst hj0
  have hc:∀(i:Nat) (hi:i<kws.length),(kws.map Value.string).toArray[i]?=some (.string kws[i]):=by
   intro i hi;simp[hi]
  rw[zu _ _ _ _ rfl];simp only[Ba,jr,ji];exact hc i hi
 ·have:=au7 kws[i] (o7 hi)
  unfold Len;omega
theorem afn (s:dh) (w:cu) :
  Calls Tryz.prog 167 #[.string s] w fun e w'=>e=.returned (.bool (kwB s))/\w'=w:=by
 go_enter Tryz.func167,Tryz.ntmps167;go_wp2
 all_goals
  go_ret;refine⟨zl ?_,rfl⟩
  simp_all [kwB]
theorem adi (l:List dh) (v:Value) (s:dh) (w:cu) (hv:jc 1 16 xk 0 w v l) :
  Calls Tryz.prog 112 #[v,.string s] w fun e w'=>e=.returned (.bool (inB l s))/\w'=w:=by
 obtain⟨a,cap,rfl,_,hn,hx⟩:=hv;unfold Len at hn;have HX:=ak hx;clear hx;go_enter Tryz.func112,Tryz.ntmps112;go_wp2
 go_loopg [6,9] l.length (fun g x i wr=>∃(k:Nat),k<=l.length/\g=l.length-k/\i=.int .i64 k/\wr=w/\∀j (h:j<l.length),j<k->(l[j].toList==s.toList)=false)
 case atStart=>exact⟨0,by omega,by omega,rfl,rfl,fun j _ h2=>by omega⟩
 case round =>
  obtain⟨k,hk,hg,rfl,rfl,hall⟩:=hrel;have HG:=ak hg;have HA:=ak hall;clear hg hall
  by_cases hlt:k<l.length
  ·obtain⟨b,o,cs,rfl,_,hb,hcs,hc,hR⟩:=uh HX k hlt
   obtain⟨rfl,hsn⟩:=hR;have c0:=hc 0 (by simp);simp only[jr,ji,og,ou] at c0;clear hc hcs
   cases he:(l[k].toList==s.toList)
   ·have A':∀j (h:j<l.length),j<k+1->(l[j].toList==s.toList)=false:=by
     intro j h h1
     by_cases e:j=k
     ·subst e;exact he
     ·exact uh HA j h (by omega)
    have HA':=ak A';clear A';go_wp2
    go_roundg (l.length-(k+1))
    case measure=>have:=uh HG;omega
    case rel=>exact⟨k+1,by omega,rfl,by go_num,rfl,uh HA'⟩
   ·have T:inB l s=true:=by
     unfold inB;rw[List.any_eq_true];exact⟨l[k],o7 hlt,he⟩
    have HT:=ak T;clear T;go_wp2;go_ret;exact⟨zl (uh HT).symm,rfl⟩
  ·have e:k=l.length:=by omega
   have T:inB l s=false:=by
    unfold inB;rw[List.any_eq_false];intro x hx;obtain⟨j,hj,rfl⟩:=List.getElem_of_mem hx;rw[uh HA j hj (by omega)];decide
   have HT:=ak T;clear T;go_wp2;go_ret;exact⟨zl (uh HT).symm,rfl⟩
theorem aqr (s:dh):inB kws s=kwB s:=by
 simp only[inB,kws,kwB,List.any_cons,List.any_nil,ByteArray.toList_eq,Bool.or_false,BEq.comm (a:=s.data.toList),Bool.or_assoc]
def Fz (s:dh):Bool:=decide (1<=s.size/\s.size<=40)&&aa6 (uf s 0)&&!kwB s&&allB (fun i=>V5 (uf s i)) 0 s.size
def Ans (v:Value) (w:cu) (e:Ending) (w':cu):Prop:=e=.returned v/\Below w.heap.size w w'
theorem ai6 (s:dh) (w:cu) (hs:Len s.size) :
  Calls Tryz.prog 108 #[.string s] w (Ans (.bool (Fz s)) w):=by
 unfold Len at hs
 by_cases h1:s.size<1
 ·have e:Fz s=false:=by simp[Fz];omega
  rw[e];have d1:decide ((s.size:Int)<1)=true:=by simp;omega
  clear e;go_enter Tryz.func108,Tryz.ntmps108;go_wp2;go_ret;exact⟨rfl,iq _ _⟩
 have d1:decide ((s.size:Int)<1)=false:=by simp;omega
 by_cases h2:40<s.size
 ·have e:Fz s=false:=by simp[Fz];omega
  rw[e];have d2:decide (40<(s.size:Int))=true:=by simp;omega
  clear e;go_enter Tryz.func108,Tryz.ntmps108;go_wp2;go_ret;exact⟨rfl,iq _ _⟩
 have d2:decide (40<(s.size:Int))=false:=by simp;omega
 have g0:0<s.size:=by omega
 have b0:=Qa g0;have hb0:=aal s[0]
 cases hl:aa6 (s[0].toNat:Int)
 ·have e:Fz s=false:=by simp[Fz,b0,hl]
  rw[e];clear e b0;go_enter Tryz.func108,Tryz.ntmps108;go_wp2_with (go_at_call 135;refine(Xc _ _ (by omega) (by omega)).mono ?_;rintro e w' ⟨rfl,rfl⟩;rw[hl]);go_ret;exact⟨rfl,iq _ _⟩
 cases hkw:kwB s
 ·have e:Fz s=allB (fun i=>V5 (uf s i)) 0 s.size:=by
   have:1<=s.size/\s.size<=40:=by omega
   simp[Fz,b0,hl,hkw,this]
  rw[e];clear e b0;have HK:=ak hkw;clear hkw;go_enter Tryz.func108,Tryz.ntmps108;go_wp2_with fail;refine(Xc _ _ (by omega) (by omega)).mono ?_;rintro e w' ⟨rfl,rfl⟩;rw[hl];go_wp2_with fail;refine(afh _).mono ?_;rintro e w1 ⟨v,rfl,hv,hbl⟩;obtain⟨av,cv,rfl⟩:=hv.shape;have HV:=ak hv;clear hv;go_wp2_with fail;refine(adi kws _ s _ ?_).mono ?_
  ·exact(uh HV).lower Xb (jg _)
  rintro e w1 ⟨rfl,rfl⟩;rw[aqr,uh HK];clear HV;go_wp2
  go_loopg [3] s.size (fun g i wr=>∃(k:Nat),k<=s.size/\g=s.size-k/\i=.int .i64 k/\wr=w1/\∀j,j<k->0<=j->V5 (uf s j)=true)
  case atStart=>exact⟨0,by omega,by omega,rfl,rfl,fun j h1 h2=>by omega⟩
  case round =>
   obtain⟨k,hk,hg,rfl,rfl,hall⟩:=hrel;have HG:=ak hg;have HA:=ak hall;clear hg hall
   by_cases hlt:k<s.size
   ·have hbd:=aal s[k]
    have W:V5 (uf s k)=(aa6 (s[k].toNat:Int)||Ko (s[k].toNat:Int)||(s[k].toNat:Int)==95):=by rw[Qa hlt];rfl
    cases hl:aa6 (s[k].toNat:Int)<;>cases hd:Ko (s[k].toNat:Int)<;>cases hu:((s[k].toNat:Int)==95)
    case false.false.false =>
     have hu':((s[k].toNat:Int) != 95)=true:=by rw[bne,hu];rfl
     have F:allB (fun i=>V5 (uf s i)) 0 s.size=false:=ai4 hlt (jg _) (by rw[W,hl,hd,hu];rfl);have HF:=ak F;clear F W;go_wp2_with (first|(go_at_call 135;refine(Xc _ _ (by omega) (by omega)).mono ?_;rintro e w' ⟨rfl,rfl⟩;rw[hl])|(go_at_call 50;refine(Ug _ _ (by omega) (by omega)).mono ?_;rintro e w' ⟨rfl,rfl⟩;rw[hd]))
     go_ret;exact⟨zl (uh HF).symm,hbl⟩
    all_goals
     have hu':((s[k].toNat:Int) != 95)=!((s[k].toNat:Int)==95):=rfl;rw[hu] at hu'
     have A':∀j,j<k+1->0<=j->V5 (uf s j)=true:=by
      intro j h1 h2
      by_cases e:j=k
      ·subst e;rw[W,hl,hd,hu];rfl
      ·exact uh HA j (by omega) h2
     have HA':=ak A';clear A' W;go_wp2_with (first|(go_at_call 135;refine(Xc _ _ (by omega) (by omega)).mono ?_;rintro e w' ⟨rfl,rfl⟩;rw[hl])|(go_at_call 50;refine(Ug _ _ (by omega) (by omega)).mono ?_;rintro e w' ⟨rfl,rfl⟩;rw[hd]))
     go_roundg (s.size-(k+1))
     case measure=>have:=uh HG;omega
     case rel=>exact⟨k+1,by omega,rfl,by go_num,rfl,uh HA'⟩
   ·have e:k=s.size:=by omega
    have T:allB (fun i=>V5 (uf s i)) 0 s.size=true:=afm (by have:=uh HA;rw[e] at this;exact this);have HT:=ak T;clear T;go_wp2;go_ret;exact⟨zl (uh HT).symm,hbl⟩
 ·have e:Fz s=false:=by simp[Fz,hkw]
  rw[e];clear e b0;have HK:=ak hkw;clear hkw;go_enter Tryz.func108,Tryz.ntmps108;go_wp2_with fail;refine(Xc _ _ (by omega) (by omega)).mono ?_;rintro e w' ⟨rfl,rfl⟩;rw[hl];go_wp2_with fail;refine(afh _).mono ?_;rintro e w1 ⟨v,rfl,hv,hbl⟩;obtain⟨av,cv,rfl⟩:=hv.shape;have HV:=ak hv;clear hv;go_wp2_with fail;refine(adi kws _ s _ ?_).mono ?_
  ·exact(uh HV).lower Xb (jg _)
  rintro e w1 ⟨rfl,rfl⟩;rw[aqr,uh HK];go_wp2;go_ret;exact⟨rfl,hbl⟩
def nameB (s:dh):Bool:=Fz s||Ir s
theorem acf (s:dh) (w:cu) (hs:Len s.size) :
  Calls Tryz.prog 80 #[.string s] w (Ans (.bool (nameB s)) w):=by
 cases hp:Fz s
 ·have e:nameB s=Ir s:=by simp[nameB,hp]
  rw[e];clear e;go_enter Tryz.func80,Tryz.ntmps80;go_wp2_with fail;refine(ai6 s _ hs).mono ?_;rintro e w1 ⟨rfl,hb⟩;rw[hp];go_wp2_with fail;refine(ar5 s _ hs).mono ?_;rintro e w' ⟨rfl,rfl⟩;go_wp2;go_ret;exact⟨rfl,hb⟩
 ·have e:nameB s=true:=by simp[nameB,hp]
  rw[e];clear e;go_enter Tryz.func80,Tryz.ntmps80;go_wp2_with fail;refine(ai6 s _ hs).mono ?_;rintro e w1 ⟨rfl,hb⟩;rw[hp];go_wp2;go_ret;exact⟨rfl,hb⟩
theorem au8 (t:Int) (w:cu):Calls Tryz.prog 170 #[.int .i64 t] w (fun e w'=>e=.returned (.bool (decide (t=1\/t=2)))/\w'=w):=by
 by_cases h1:t=1
 ·subst h1
  go_enter Tryz.func170,Tryz.ntmps170;go_wp2;go_ret;exact⟨rfl,rfl⟩
 ·by_cases h2:t=2
  ·subst h2
   go_enter Tryz.func170,Tryz.ntmps170;go_wp2;go_ret;exact⟨rfl,rfl⟩
  ·rw[iy (fun h=>by rcases h with h|h;exact h1 h;exact h2 h)]
   have b1:(t==1)=false:=by rw[su];exact h1
   have b2:(t==2)=false:=by rw[su];exact h2
   go_enter Tryz.func170,Tryz.ntmps170;go_wp2;go_ret;exact⟨rfl,rfl⟩
def acg (_:Nat) (_:cu) (cs:List Value) (x:Int):Prop:=cs=[.int .u8 x]/\0<=x/\x<=255
theorem ai7:P9 acg:=fun _ _ _ _ _ _ h=>h
def Ya (cs:List Value):Value:=cs.headD (.bool false)
def am8 (cs:List Value):Value:=cs.headD (.bool false)
def ai8 (cs:List Value):Value:=cs.headD (.bool false)
def aln (cs:List Value):Value:=.agg cs.toArray
theorem ace (p:Int->Bool) (hf:∀(x:Int) cs w,acg 0 w cs x->Calls Tryz.prog 169 #[Ya cs] w (Ans (.bool (p x)) w)) (xs:List Int) (v:Value) (w:cu) (hv:jc 1 1 acg 0 w v xs) :
  Calls Tryz.prog 168 #[v,.func (.func 169) #[] #[]] w (Ans (.bool (xs.all p)) w):=by
 obtain⟨a,cap,rfl,_,hn,hx⟩:=hv;unfold Len at hn;have HX:=ak hx;have Rq:=ak hf;clear hx hf;go_enter Tryz.func168,Tryz.ntmps168;go_wp2
 go_loopg [6,9] xs.length (fun g x i wr=>∃(k:Nat),k<=xs.length/\g=xs.length-k/\i=.int .i64 k/\Below w.heap.size w wr/\∀j (h:j<xs.length),j<k->p xs[j]=true)
 case atStart=>exact⟨0,jg _,by omega,rfl,iq _ _,fun j _ h=>absurd h (yu _)⟩
 case round =>
  obtain⟨k,hk,hg,rfl,hbl,hall⟩:=hrel;have HG:=ak hg;have HA:=ak hall;clear hg hall
  by_cases hlt:k<xs.length
  ·obtain⟨b,o,cs,rfl,_,hb,hcs,hc,hR⟩:=uh HX k hlt
   have hR:=ai7.stays _ _ _ _ _ hbl hR;have hc:∀j (hj:j<cs.length),wr.cell? ⟨b,o+k*1+j,none⟩=some cs[j]:=fun j hj=>by rw[hbl.cell (p:=⟨b,_,none⟩) hb];exact hc j hj
   have hcall:=uh Rq xs[k] cs wr hR;obtain⟨rfl,hx0,hx1⟩:=hR;have c0:=hc 0 (by simp);simp only[jr,ji,og,ou] at c0;simp only[Ya,List.headD_cons] at hcall;have HC:=ak hcall;clear hc hcs hcall
   cases hp:p xs[k]
   ·have F:xs.all p=false:=by
     rw[List.all_eq_false];exact⟨xs[k],o7 hlt,by rw[hp];decide⟩
    have HF:=ak F;clear F;go_wp2_with fail;refine(uh HC).mono ?_;rintro e w1 ⟨rfl,hb1⟩;rw[hp];go_wp2;go_ret;exact⟨zl (uh HF).symm,hbl.trans (hb1.mono hbl.size)⟩
   ·have A':∀j (h:j<xs.length),j<k+1->p xs[j]=true:=by
     intro j h h1
     by_cases e:j=k
     ·subst e;exact hp
     ·exact uh HA j h (by omega)
    have HA':=ak A';clear A';go_wp2_with fail;refine(uh HC).mono ?_;rintro e w1 ⟨rfl,hb1⟩;rw[hp];go_wp2
    go_roundg (xs.length-(k+1))
    case measure=>have:=uh HG;omega
    case rel=>exact⟨k+1,by omega,rfl,by go_num,hbl.trans (hb1.mono hbl.size),uh HA'⟩
  ·have e:k=xs.length:=by omega
   have T:xs.all p=true:=by
    rw[yc];intro x hx;obtain⟨j,hj,rfl⟩:=List.getElem_of_mem hx;exact uh HA j hj (by omega)
   have HT:=ak T;clear T;go_wp2;go_ret;exact⟨zl (uh HT).symm,hbl⟩
theorem aee (p:Int->Bool) (hf:∀(x:Int) cs w,acg 0 w cs x->Calls Tryz.prog 119 #[Ya cs] w (Ans (.bool (p x)) w)) (xs:List Int) (v:Value) (w:cu) (hv:jc 1 1 acg 0 w v xs) :
  Calls Tryz.prog 168 #[v,.func (.func 119) #[] #[]] w (Ans (.bool (xs.all p)) w):=by
 obtain⟨a,cap,rfl,_,hn,hx⟩:=hv;unfold Len at hn;have HX:=ak hx;have Rq:=ak hf;clear hx hf;go_enter Tryz.func168,Tryz.ntmps168;go_wp2
 go_loopg [6,9] xs.length (fun g x i wr=>∃(k:Nat),k<=xs.length/\g=xs.length-k/\i=.int .i64 k/\Below w.heap.size w wr/\∀j (h:j<xs.length),j<k->p xs[j]=true)
 case atStart=>exact⟨0,jg _,by omega,rfl,iq _ _,fun j _ h=>absurd h (yu _)⟩
 case round =>
  obtain⟨k,hk,hg,rfl,hbl,hall⟩:=hrel;have HG:=ak hg;have HA:=ak hall;clear hg hall
  by_cases hlt:k<xs.length
  ·obtain⟨b,o,cs,rfl,_,hb,hcs,hc,hR⟩:=uh HX k hlt
   have hR:=ai7.stays _ _ _ _ _ hbl hR;have hc:∀j (hj:j<cs.length),wr.cell? ⟨b,o+k*1+j,none⟩=some cs[j]:=fun j hj=>by rw[hbl.cell (p:=⟨b,_,none⟩) hb];exact hc j hj
   have hcall:=uh Rq xs[k] cs wr hR;obtain⟨rfl,hx0,hx1⟩:=hR;have c0:=hc 0 (by simp);simp only[jr,ji,og,ou] at c0;simp only[Ya,List.headD_cons] at hcall;have HC:=ak hcall;clear hc hcs hcall
   cases hp:p xs[k]
   ·have F:xs.all p=false:=by
     rw[List.all_eq_false];exact⟨xs[k],o7 hlt,by rw[hp];decide⟩
    have HF:=ak F;clear F;go_wp2_with fail;refine(uh HC).mono ?_;rintro e w1 ⟨rfl,hb1⟩;rw[hp];go_wp2;go_ret;exact⟨zl (uh HF).symm,hbl.trans (hb1.mono hbl.size)⟩
   ·have A':∀j (h:j<xs.length),j<k+1->p xs[j]=true:=by
     intro j h h1
     by_cases e:j=k
     ·subst e;exact hp
     ·exact uh HA j h (by omega)
    have HA':=ak A';clear A';go_wp2_with fail;refine(uh HC).mono ?_;rintro e w1 ⟨rfl,hb1⟩;rw[hp];go_wp2
    go_roundg (xs.length-(k+1))
    case measure=>have:=uh HG;omega
    case rel=>exact⟨k+1,by omega,rfl,by go_num,hbl.trans (hb1.mono hbl.size),uh HA'⟩
  ·have e:k=xs.length:=by omega
   have T:xs.all p=true:=by
    rw[yc];intro x hx;obtain⟨j,hj,rfl⟩:=List.getElem_of_mem hx;exact uh HA j hj (by omega)
   have HT:=ak T;clear T;go_wp2;go_ret;exact⟨zl (uh HT).symm,hbl⟩
def Zm (s:dh):List Int:=s.data.toList.map (fun b=>(b.toNat:Int))
theorem abb (s:dh):(Zm s).length=s.size:=by simp[Zm]
theorem adk (s:dh) (i:Nat) (h:i<(Zm s).length):(Zm s)[i]=uf s i:=by
 have h':i<s.size:=by rw[abb] at h;exact h
 rw[Qa h'];simp[Zm];rfl
theorem bytes_at (w:cu) (e:TypeId) (s:dh) (cap:Nat) (hs:Len s.size) (hcap:s.size<=cap) :
  jc 1 1 acg 0 (Lib.bytesWorld w e s) (.slice (some ⟨w.heap.size,0,none⟩) s.size cap) (Zm s):=by
 have hl:=abb s;refine⟨_,cap,by rw[hl],⟨by rw[hl,jr];exact hs,by rw[hl];exact hcap⟩,by rw[hl];exact hs,fun i hi=>?_⟩;have hi':i<s.size:=by omega
 refine⟨_,0,[.int .u8 (Zm s)[i]],rfl,jg _,by rw[Lib.bytesWorld_size];omega,rfl,fun j hj=>?_,rfl,?_,?_⟩
 ·have hj0:j=0:=by simpa using hj
  subst hj0;simp only[Ba,jr,ji,og];rw[Lib.bytesWorld_cell w e s i hi',adk,Qa hi'];simp[List.getD,hi'];rfl
 ·rw[adk,Qa hi'];exact(aal _).1
 ·rw[adk,Qa hi'];exact(aal _).2
theorem aam (w:cu) (e:TypeId) (s:dh):Below w.heap.size w (Lib.bytesWorld w e s):=by
 refine⟨?_,?_,?_,by rw[Lib.bytesWorld_size];omega,fun k hk=>Lib.bytesWorld_at_old w e s k hk⟩
 all_goals simp[Lib.bytesWorld,World.freeze,World.alloc,World.drew,-World.alloc_eq,-World.drew_eq]
theorem aqs (p:Int->Bool) (s:dh):(Zm s).all p=allB (fun i=>p (uf s i)) 0 s.size:=by
 rw[Oa,yc];constructor
 ·intro h
  refine afm fun j hj _=>?_
  have hj':j<(Zm s).length:=by rw[abb];exact hj
  rw[←adk s j hj'];exact h _ (o7 hj')
 ·intro h x hx
  obtain⟨j,hj,rfl⟩:=List.getElem_of_mem hx;rw[adk];have h':=h;unfold allB at h';rw[D8] at h';exact h' j (by rw[abb] at hj;exact hj) (jg _)
theorem bbp (x:Int) (cs:List Value) (w:cu) (h:acg 0 w cs x):Calls Tryz.prog 169 #[Ya cs] w (Ans (.bool (V5 x)) w):=by
 obtain⟨rfl,h0,h1⟩:=h;refine(amm x w h0 h1).mono ?_;rintro e w' ⟨rfl,rfl⟩;exact⟨rfl,iq _ _⟩
theorem a6m (x:Int) (cs:List Value) (w:cu) (h:acg 0 w cs x):Calls Tryz.prog 119 #[Ya cs] w (Ans (.bool (Ko x)) w):=by
 obtain⟨rfl,h0,h1⟩:=h;refine(aed x w h0 h1).mono ?_;rintro e w' ⟨rfl,rfl⟩;exact⟨rfl,iq _ _⟩
theorem Na (s:dh) (h:s.size=0):(s.toList==[])=true:=by
 have e:s.data.toList=[]:=Sj (by rw[Array.length_toList];exact h);rw[ByteArray.toList_eq,e];rfl
theorem O1 (s:dh) (h:s.size≠0):(s.toList==[])=false:=by
 rw[su,ByteArray.toList_eq];intro hh;have:=ni List.length hh;rw[Array.length_toList] at this;exact h this
theorem alo (s:dh) (w:cu) (hs:Len s.size) :
  Calls Tryz.prog 142 #[.string s] w (Ans (.bool (Fz s)) w):=by
 have HS:=ak hs;unfold Len at hs
 by_cases h1:s.size<1
 ·have e:Fz s=false:=by simp[Fz];omega
  rw[e];have d1:(s.toList==[])=true:=Na s (by omega);clear e;go_enter Tryz.func142,Tryz.ntmps142;go_wp2;go_ret;exact⟨rfl,iq _ _⟩
 have d1:(s.toList==[])=false:=O1 s (by omega)
 by_cases h2:40<s.size
 ·have e:Fz s=false:=by simp[Fz];omega
  rw[e];have d2:decide (40<(s.size:Int))=true:=by simp;omega
  clear e;go_enter Tryz.func142,Tryz.ntmps142;go_wp2;go_ret;exact⟨rfl,iq _ _⟩
 have d2:decide (40<(s.size:Int))=false:=by simp;omega
 have g0:0<s.size:=by omega
 have b0:=Qa g0;have hb0:=aal s[0]
 cases hl:aa6 (s[0].toNat:Int)
 ·have e:Fz s=false:=by simp[Fz,b0,hl]
  rw[e];clear e b0;go_enter Tryz.func142,Tryz.ntmps142;go_wp2_with (go_at_call 166;refine(aak _ _ (by omega) (by omega)).mono ?_;rintro e w' ⟨rfl,rfl⟩;rw[hl]);go_ret;exact⟨rfl,iq _ _⟩
 cases hkw:kwB s
 ·have e:Fz s=(Zm s).all V5:=by
   rw[aqs];have:1<=s.size/\s.size<=40:=by omega
   simp[Fz,b0,hl,hkw,this]
  rw[e];clear e b0;have hcv:=fun w=>Lib.run_convert_string_bytes (P:=Tryz.prog) w 9 64 5 s Tryz.underlying9 Tryz.underlying64 Tryz.underlying5
  go_enter Tryz.func142,Tryz.ntmps142;go_wp2_with fail;refine(aak _ _ (by omega) (by omega)).mono ?_;rintro e w' ⟨rfl,rfl⟩;rw[hl];go_wp2_with fail;refine(afn _ _).mono ?_;rintro e w' ⟨rfl,rfl⟩;rw[hkw];go_wp2_with fail;refine(ace V5 bbp (Zm s) _ _ (bytes_at _ _ s _ (uh HS) (grownCap_ge _ _ _ _))).mono ?_;rintro e w1 ⟨rfl,hb⟩;go_wp2;go_ret;exact⟨rfl,(aam _ _ _).trans (hb.mono (aam _ _ _).size)⟩
 ·have e:Fz s=false:=by simp[Fz,hkw]
  rw[e];clear e b0;go_enter Tryz.func142,Tryz.ntmps142;go_wp2_with fail;refine(aak _ _ (by omega) (by omega)).mono ?_;rintro e w' ⟨rfl,rfl⟩;rw[hl];go_wp2_with fail;refine(afn _ _).mono ?_;rintro e w' ⟨rfl,rfl⟩;rw[hkw];go_wp2;go_ret;exact⟨rfl,iq _ _⟩
end Go.Proofs.YtfeejeflmcapoaaGreatDoor
