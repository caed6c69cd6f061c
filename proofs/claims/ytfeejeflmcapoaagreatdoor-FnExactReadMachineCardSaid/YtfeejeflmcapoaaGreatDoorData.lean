import Derived.WalkKit
import Derived.WalkSpells
import Derived.Deep.OwnRows
import Derived.Test.YtfeejeflmcapoaaGreatDoorProg
import Derived.WalkLawsBesides
import Derived.Deep.LoopGhost
import Derived.Lib.ConvBytes
set_option linter.unusedSimpArgs false
set_option linter.unusedVariables false
set_option maxHeartbeats 1000000
namespace Go.Proofs.YtfeejeflmcapoaaGreatDoor
open Go.RowKit
theorem gq:∀(n:Nat), n<=n := @Nat.le_refl
theorem iw:∀{p:Prop} [inst:Decidable p], ¬p->decide p=false := @decide_eq_false
theorem ay:∀{c:Prop} {h:Decidable c}, ¬c->∀{α:Sort _} {t e:α}, (if c then t else e)=e := @if_neg
theorem jy:∀{α:Type _} {l:List α} {i:Nat} (h:i<l.length), l[i]?=some l[i] := @List.getElem?_eq_getElem
theorem gy:∀(B:Nat) (w:World), RowKit.Below B w w := @Below.refl
theorem je:∀{α:Type _} {«as» bs:List α}, («as»++bs).length=«as».length+bs.length := @List.length_append
theorem ny:∀{α:Type _} (a:α) («as»:List α) (h:0<(a::«as»).length), (a::«as»)[0]=a := @List.getElem_cons_zero
theorem jf:∀{p:Prop} [inst:Decidable p], p->decide p=true := @decide_eq_true
theorem su:∀{α:Type _} [inst:BEq α] [LawfulBEq α] {a b:α}, (a == b)=false↔a≠b := @beq_eq_false_iff_ne
theorem jh:∀(n:Nat), n+0=n := @Nat.add_zero
theorem qj:∀{n m k:Nat}, n<m->m<=k->n<k := @Nat.lt_of_lt_of_le
theorem xg:∀{α:Type _} {a:α}, ¬a∈[] := @List.not_mem_nil
theorem jg:∀(n:Nat), 0<=n := @Nat.zero_le
theorem gu:∀{c:Prop} {h:Decidable c}, c->∀{α:Sort _} {t e:α}, (if c then t else e)=t := @if_pos
theorem ql:∀{α:Type _} {b:α} {l:List α} {a:α}, a∈b::l↔a=b∨a∈l := @List.mem_cons
theorem jq:∀{n m k:Nat}, n<=m->m<=k->n<=k := @Nat.le_trans
theorem pz:∀{α:Type _} {l:List α} {n:Nat} (h:n<l.length), l[n]∈l := @List.getElem_mem
theorem jr:∀(n:Nat), n*1=n := @Nat.mul_one
theorem yw:∀{α:Type _} {l:List α} {i:Nat} {a:α}, l.getD i a=l[i]?.getD a := @List.getD_eq_getElem?_getD
theorem qw:∀(a:Option Addr) (len cap:Nat) (a_1:Option Addr) (a3i a3j:Nat), (Value.slice a len cap=Value.slice a_1 a3i a3j)=(a=a_1∧len=a3i∧cap=a3j) := @Value.slice.injEq
theorem uo:∀{α:Type _} (val ai4:α), (some val=some ai4)=(val=ai4) := @Option.some.injEq
theorem uf:∀{α:Type _} {a:α} {«as»:List α}, (a::«as»).length=«as».length+1 := @List.length_cons
theorem yj:∀{α:Type _} {a b:α}, a∈[b]↔a=b := @List.mem_singleton
theorem uq:∀(a b:Bool), ((a&&b)=true)=(a=true∧b=true) := @Bool.and_eq_true
theorem Fb:∀{α:Type _} {i:Nat} {l:List α} (h:i<l.length), List.take (i+1) l=List.take i l++[l[i]] := @List.take_succ_eq_append_getElem
theorem xq:∀{p:Prop} [inst:Decidable p], decide p=true->p := @of_decide_eq_true
theorem yx:∀(w:World) (a:Addr) (u:Value) (k:Nat), k≠a.block->(w.setCell a u).heap[k]?=w.heap[k]? := @Below.heap_setCell
theorem Gz:∀{α:Type _} [inst:BEq α] {a:α} {l₁ l₂:List α}, List.count a (l₁++l₂)=List.count a l₁+List.count a l₂ := @List.count_append
theorem zy:∀{w:World} (c:Array Value) (t:TypeId) (n i:Nat), n=w.heap.size->(w.alloc (Obj.cells c t)).cell? { block := n, off := i }=c[i]? := @World.cell?_alloc_at
theorem uw:∀{m n:Nat}, m∈List.range n↔m<n := @List.mem_range
theorem yt:∀(n:Nat), ¬n<0 := @Nat.not_lt_zero
theorem xw:∀{α:Type _} {p:α->Bool} {l:List α}, l.all p=true↔∀(x:α), x∈l->p x=true := @List.all_eq_true
theorem Az:∀{α:Type _} («as»:List α), «as»++[]=«as» := @List.append_nil
theorem Bg:∀{α:Type _} {l:List α}, 0<l.length↔l≠[] := @List.length_pos_iff
theorem xk:∀(p:Prop), (p∨False)=p := @or_false
theorem Ad:∀{α:Type _} {β:Type _} {«as»:List α} (f:α->β), (List.map f «as»).length=«as».length := @List.length_map
theorem Eh:∀{p:Prop} [inst:Decidable p], decide p=true↔p := @decide_eq_true_iff
theorem Bc:∀(b:Bool), (false&&b)=false := @Bool.false_and
theorem Rf:∀(n:Int), IntKind.i64.wrap n=(n+9223372036854775808) % 18446744073709551616-9223372036854775808 := @IntKind.wrap_i64
theorem Dh:∀{α:Type _} {i:Nat} {l:List α}, (List.drop i l).length=l.length-i := @List.length_drop
theorem Ar:∀(b:Bool), (true&&b)=b := @Bool.true_and
theorem Eb:∀{α:Type _} {l:List α}, List.take l.length l=l := @List.take_length
theorem Bd:∀{w:World} {base:Nat} {e:TypeId} {size:Nat} {v:Value} {n:Nat} {xs:List Value}, w.ownsRow base e size v n xs->∀(k:Nat), v.ownBlock=some k->base<=k∧k<w.heap.size := @World.ownsRow.lt
theorem Ec:∀{α:Type _} {a:α} {s t:List α}, a∈s++t↔a∈s∨a∈t := @List.mem_append
theorem Ed:∀(w:World) (o:Obj), (w.alloc o).heap.size=w.heap.size+1 := @World.size_alloc
theorem G8:∀{α:Type _} (y:α) {a:α} {l:List α}, a∈l->a∈y::l := @List.mem_cons_of_mem
theorem Jk:∀{α:Type _} {i:Nat} {b:α} {xs:Array α}, xs[i]?=some b↔∃h, xs[i]=b := @Array.getElem?_eq_some_iff
theorem Jl:∀(w:World) (a:Addr) {u:Value}, w.cell? a=some u->a.block<w.heap.size := @World.block_lt_of_cell?
theorem Bh:∀(n:Nat), 0+n=n := @Nat.zero_add
theorem Ap:∀{α:Type _} {β:Type _} {f:α->β} {a:α} {l:List α}, List.map f (a::l)=f a::List.map f l := @List.map_cons
theorem H7:∀{α:Type _} {a:α} {l:List α}, a∈a::l := @List.mem_cons_self
theorem Fe:∀{α:Type _} {a:α} {«as» bs:List α}, a::«as»++bs=a::(«as»++bs) := @List.cons_append
theorem Gt:∀{α:Type _} («as» bs cs:List α), «as»++bs++cs=«as»++(bs++cs) := @List.append_assoc
theorem Nl:∀{p:Prop} {x:Decidable p}, decide p=false↔¬p := @decide_eq_false_iff_not
theorem Gu:∀{α:Type _} («as»:List α), []++«as»=«as» := @List.nil_append
theorem Jm:∀{α:Type _} [inst:BEq α] [LawfulBEq α] {a b:α}, (a != b)=false↔a=b := @bne_eq_false_iff_eq
theorem Qe:∀{α:Type _} {l:List α}, l.length=0->l=[] := @List.eq_nil_of_length_eq_zero
theorem Ob:∀{α:Type _} {a:α}, [a].length=1 := @List.length_singleton
theorem G9:∀{α:Type _} {val ai4:α}, some val=some ai4->val=ai4 := @Option.some.inj
theorem Yy:∀{α:Type _} {L₁ L₂:List (List α)}, (L₁++L₂).flatten=L₁.flatten++L₂.flatten := @List.flatten_append
theorem Kz:∀{α:Type _} {a b:α}, (some a).getD b=a := @Option.getD_some
theorem Pj:∀{α:Type _} (i:Nat) (l:List α), List.take i l++List.drop i l=l := @List.take_append_drop
theorem Gf:∀{α:Type _} {β:Type _} {f:α->β}, List.map f []=[] := @List.map_nil
theorem Qg:∀{α:Type _} {i:Nat} {l:List α}, l.length<=i->List.take i l=l := @List.take_of_length_le
theorem adk:∀{α:Type _} {l:List α} {L:List (List α)}, (l::L).flatten=l++L.flatten := @List.flatten_cons
theorem Il:∀{α:Type _} {β:Type _} {f:α->β} {l₁ l₂:List α}, List.map f (l₁++l₂)=List.map f l₁++List.map f l₂ := @List.map_append
theorem J3:∀{α:Type _} {β:Type _} {f:β->α->β} {b:β} {l l':List α}, List.foldl f b (l++l')=List.foldl f (List.foldl f b l) l' := @List.foldl_append
theorem Oc:∀{a b:Bool}, a=b↔(a=true↔b=true) := @Bool.eq_iff_iff
theorem Np:∀{α:Type _} {l:List α}, List.take 0 l=[] := @List.take_zero
theorem Nq:∀{α:Type _} {i:Nat} {l:List α}, (List.take i l).length=Min.min i l.length := @List.length_take
theorem Rh:∀{α:Type _} {i:Nat} {«as» bs:List α} (h:i<«as».length) {h':i<(«as»++bs).length}, («as»++bs)[i]=«as»[i] := @List.getElem_append_left
theorem Ux:∀{α:Type _} {l₁ l₂:List α} {i:Nat}, l₁.length<=i->(l₁++l₂)[i]?=l₂[i-l₁.length]? := @List.getElem?_append_right
theorem Fg:∀{α:Type _} [inst:BEq α] [LawfulBEq α] {a b:α}, (a == b)=true↔a=b := @beq_iff_eq
theorem mg:∀{α:Sort _} {β:Sort _} {a₁ a₂:α} (f:α->β), a₁=a₂->f a₁=f a₂ := @congrArg
theorem Ri:∀(n:Nat), n<n.succ := @Nat.lt_succ_self
theorem Xe:∀{m:Nat} (n:Nat), 0<m->n<=n*m := @Nat.le_mul_of_pos_right
theorem o8:∀{α:Type _} (a:α) (l:List α) (i:Nat) (h:i+1<(a::l).length), (a::l)[i+1]=l[i]'(Nat.lt_of_succ_lt_succ h) := @List.getElem_cons_succ
theorem H8:∀{a:Int}, 0<=a->∃n:Nat, a=n := @Int.eq_ofNat_of_zero_le
theorem En:∀(n:Nat), (n:Int).toNat=n := @Int.toNat_natCast
theorem A8:∀{α:Type _}, ([]:List α).length=0 := @List.length_nil
abbrev dh := ByteArray
abbrev bf := World
theorem hide {p:Prop} (h:p):Hid p:=h
theorem uh {p:Prop} (h:Hid p):p:=h
structure ku where
 op:Int
 val:Int
 name:dh
def I64 (x:Int):Prop:=-9223372036854775808<=x∧x<=9223372036854775807
def Len (n:Nat):Prop:=n<=140737488355328
def Kept (lo hi:Nat) (w w':bf):Prop:=w.heap.size<=w'.heap.size∧∀k,lo<=k->k<hi->w'.heap[k]?=w.heap[k]?
theorem Kept.of_below {lo B:Nat} {w w':bf} (h:Below B w w'):Kept lo B w w':=⟨h.size,fun k _ hk=>h.block k hk⟩
theorem Kept.cell {lo hi:Nat} {w w':bf} (h:Kept lo hi w w') {p:Addr} (h1:lo<=p.block) (h2:p.block<hi):w'.cell? p=w.cell? p:=World.cell?_of_block (w:=w) (h.2 p.block h1 h2)
theorem Kept.refl (lo hi:Nat) (w:bf):Kept lo hi w w:=⟨gq _,fun _ _ _=>rfl⟩
theorem Kept.trans {lo hi hi':Nat} {w w' w'':bf} (h:Kept lo hi w w') (k:Kept lo hi' w' w'') (hh:hi<=hi'):Kept lo hi w w'' :=
 ⟨jq h.1 k.1,fun i h1 h2=>(k.2 i h1 (by omega)).trans (h.2 i h1 h2)⟩
theorem Kept.setCell {lo hi:Nat} {w w':bf} (h:Kept lo hi w w') {p:Addr} (hp:p.block<lo) (u:Value):Kept lo hi w (w'.setCell p u) :=
 ⟨by simpa[World.setCell] using h.1,fun k h1 h2=>by rw[yx _ _ _ _ (by omega)];exact h.2 k h1 h2⟩
def iy {α:Type} (sz qy:Nat) (R:Nat->bf->List Value->α->Prop) (lo:Nat) (w:bf) (v:Value) (xs:List α):Prop :=
 ∃a cap,v=.slice a xs.length cap∧(Len (xs.length*qy)∧xs.length<=cap)∧Len xs.length∧∀i (h:i<xs.length),∃b o cs,a=some ⟨b,o,none⟩∧lo<=b∧b<w.heap.size∧cs.length=sz ∧
  (∀j (hj:j<cs.length),w.cell? ⟨b,o+i*sz+j,none⟩=some cs[j])∧R lo w cs xs[i]
def Qh {α:Type} (R:Nat->bf->List Value->α->Prop):Prop:=∀lo w w' cs x,Kept lo w.heap.size w w'->R lo w cs x->R lo w' cs x
def bb7 {α:Type} (R:Nat->bf->List Value->α->Prop):Prop:=∀lo w w' cs x,Below w.heap.size w w'->R lo w cs x->R lo w' cs x
def Lowers {α:Type} (R:Nat->bf->List Value->α->Prop):Prop:=∀lo lo' w cs x,lo'<=lo->R lo w cs x->R lo' w cs x
theorem Qh.stays {α:Type} {R:Nat->bf->List Value->α->Prop} (h:Qh R):bb7 R:=fun _ _ _ _ _ hb hr=>h _ _ _ _ _ (Kept.of_below hb) hr
theorem iy.kept {α:Type} {sz qy lo:Nat} {R:Nat->bf->List Value->α->Prop} (hR:Qh R) {w w':bf} {v:Value} {xs:List α} (hb:Kept lo w.heap.size w w') (h:iy sz qy R lo w v xs):iy sz qy R lo w' v xs:=by
 obtain⟨a,cap,rfl,hl,hl2,h⟩:=h;refine⟨a,cap,rfl,hl,hl2,fun i hi=>?_⟩;obtain⟨b,o,cs,ha,hlo,hbl,hcs,hc,hr⟩:=h i hi;exact⟨b,o,cs,ha,hlo,qj hbl hb.1,hcs,fun j hj=>by rw[hb.cell (p:=⟨b,_,none⟩) hlo hbl];exact hc j hj,hR _ _ _ _ _ hb hr⟩
theorem iy.shape {α:Type} {sz qy lo:Nat} {R:Nat->bf->List Value->α->Prop} {w:bf} {v:Value} {xs:List α} (h:iy sz qy R lo w v xs):∃a cap,v=.slice a xs.length cap:=by
 obtain⟨a,cap,hv,_⟩:=h;exact⟨a,cap,hv⟩
theorem iy.stays {α:Type} {sz qy lo:Nat} {R:Nat->bf->List Value->α->Prop} (hR:Qh R) {w w':bf} {v:Value} {xs:List α} (hb:Below w.heap.size w w') (h:iy sz qy R lo w v xs):iy sz qy R lo w' v xs:=h.kept hR (Kept.of_below hb)
theorem iy.lower {α:Type} {sz qy lo lo':Nat} {R:Nat->bf->List Value->α->Prop} (hR:Lowers R) {w:bf} {v:Value} {xs:List α} (hl:lo'<=lo) (h:iy sz qy R lo w v xs):iy sz qy R lo' w v xs:=by
 obtain⟨a,cap,rfl,hl1,hl2,h⟩:=h;refine⟨a,cap,rfl,hl1,hl2,fun i hi=>?_⟩;obtain⟨b,o,cs,ha,hlo,hbl,hcs,hc,hr⟩:=h i hi;exact⟨b,o,cs,ha,jq hl hlo,hbl,hcs,hc,hR _ _ _ _ _ hl hr⟩
def wz (_:Nat) (_:bf) (cs:List Value) (s:dh):Prop:=cs=[.string s]∧Len s.size
def Gp (_:Nat) (_:bf) (cs:List Value) (t:ku):Prop:=cs=[.int .i64 t.op,.int .i64 t.val,.string t.name]∧Len t.name.size∧I64 t.op∧I64 t.val
def Io (lo:Nat) (w:bf) (cs:List Value) (l:List ku):Prop:=∃v,cs=[v]∧iy 3 32 Gp lo w v l
def J4 (_:Nat) (_:bf) (cs:List Value) (x:Int):Prop:=cs=[.int .i64 x]∧I64 x
theorem Fp:Qh J4:=fun _ _ _ _ _ _ h=>h
theorem zo:Qh wz:=fun _ _ _ _ _ _ h=>h
theorem Ag:Qh Gp:=fun _ _ _ _ _ _ h=>h
theorem I9:Qh Io:=fun _ _ _ _ _ hb ⟨v,h1,h2⟩=>⟨v,h1,h2.kept Ag hb⟩
theorem Xf:Lowers wz:=fun _ _ _ _ _ _ h=>h
def oq {α:Type} (f:α->Nat) (xs:List α):Nat:=xs.length+(xs.map f).sum
def Gq (t:ku):Nat:=t.name.size
def Qw (s:dh):Nat:=s.size
def Vh {α:Type} (f:α->Nat) (xs:List α) (k:Nat):Nat:=((xs.take k).map f).sum
theorem aau {P:Program} (t e:TypeId) (z:Value) (size bytes:Nat) (ht:P.underlying t=some (.slice e)) (hinfo:(P.info? e).map (fun i=>(i.zero,i.size,i.bytes))=some (some z,size,bytes)) (n:Nat) (hb:n*bytes<=140737488355328) (hn:n<=140737488355328) (w:bf) :
  (Instr.makeSlice t (.int .i64 (n:Int)) (.int .i64 (n:Int))).run P w=.ok (.slice (some ⟨w.heap.size,0,none⟩) n n) (w.alloc (.cells (madeCells z.cells (n*size)) e)):=by
 obtain⟨i,hi,hzz⟩:=Option.map_eq_some_iff.1 hinfo;simp only[Prod.mk.injEq] at hzz;obtain⟨hz,hs,hbt⟩:=hzz
 have hb':(i.bytes:Int)*(n:Int)<=281474976710656:=by
  have h:((i.bytes*n:Nat):Int)<=281474976710656:=by rw[hbt,Nat.mul_comm];omega
  rwa[Int.natCast_mul] at h
 have hr:=run_make (P:=P) w t e i z ht hi hz .i64 .i64 n n (by omega) (Int.le_refl _) hb' (by omega);simp only[En,hs] at hr;exact hr
def Nk (w:bf) (b:Nat) (n:Nat):Prop:=∃c t,w.heap[b]?=some (.cells c t (0,0))∧c.size=n
theorem Nk.lt {w:bf} {b n:Nat} (h:Nk w b n):b<w.heap.size:=by
 obtain⟨c,t,hb,_⟩:=h;exact(Jk.1 hb).1
theorem Nk.cell {w:bf} {b n:Nat} (h:Nk w b n) {i:Nat} (hi:i<n):∃u,w.cell? ⟨b,i,none⟩=some u:=by
 obtain⟨c,t,hb,hn⟩:=h;exact⟨c[i],by simp[World.cell?,hb,hn,hi]⟩
theorem Nk.frozen {w:bf} {b n:Nat} (h:Nk w b n) (i:Nat):w.frozen? ⟨b,i,none⟩=false:=by
 obtain⟨c,t,hb,_⟩:=h;simp[World.frozen?,hb]
theorem Nk.below {w w':bf} {b n:Nat} (h:Nk w b n) (hb:Below w.heap.size w w'):Nk w' b n:=by
 have hlt:=h.lt;obtain⟨c,t,hc,hn⟩:=h;exact⟨c,t,(hb.block b hlt).trans hc,hn⟩
theorem Nk.set {w:bf} {b n:Nat} (h:Nk w b n) (i:Nat) (u:Value):Nk (w.setCell ⟨b,i,none⟩ u) b n:=by
 obtain⟨c,t,hc,hn⟩:=h;exact⟨c.setIfInBounds i u,t,by simp[World.setCell,Array.getElem?_modify,hc],by simpa using hn⟩
theorem Nk.made (w:bf) (cs:Array Value) (n:Nat) (t:TypeId):Nk (w.alloc (.cells (madeCells cs n) t)) w.heap.size n :=
 ⟨_,t,Deep.blk_alloc_new _ _,size_madeCells _ _⟩
def afm {α:Type} (sz:Nat) (R:Nat->bf->List Value->α->Prop) (lo:Nat) (w:bf) (b:Nat) (xs:List α) (k:Nat):Prop :=
 ∀i (h:i<xs.length),i<k->∃cs,cs.length=sz∧(∀j (hj:j<cs.length),w.cell? ⟨b,i*sz+j,none⟩=some cs[j])∧R lo w cs xs[i]
theorem aan {W w1:bf} (hb:Below W.heap.size W w1):(∀b o,b<W.heap.size->w1.cell? ⟨b,o,none⟩=W.cell? ⟨b,o,none⟩)∧(∀b o,b<W.heap.size->w1.frozen? ⟨b,o,none⟩=W.frozen? ⟨b,o,none⟩) :=
 ⟨fun b o h=>hb.cell (p:=⟨b,o,none⟩) h,fun b o h=>hb.frozen (p:=⟨b,o,none⟩) h⟩
def aa9 (c:Int):Bool:=decide ((97<=c∧c<=122)∨(65<=c∧c<=90))
def Kt (c:Int):Bool:=decide (48<=c∧c<=57)
def V9 (c:Int):Bool:=aa9 c||Kt c||c == 95
theorem zu {a b:Bool} (h:a=b):Ending.returned (.bool a)=.returned (.bool b):=by rw[h]
theorem Xg (c:Int) (w:bf) (h0:0<=c) (h1:c<=255) :
  Calls Tryz.prog 135 #[.int .u8 c] w fun e w'=>e=.returned (.bool (aa9 c))∧w'=w:=by
 go_enter Tryz.func135,Tryz.ntmps135;go_wp2
 all_goals
  go_ret;refine⟨zu ?_,rfl⟩;unfold aa9;rw[Oc];simp
  try omega
theorem Uk (c:Int) (w:bf) (h0:0<=c) (h1:c<=255) :
  Calls Tryz.prog 50 #[.int .u8 c] w fun e w'=>e=.returned (.bool (Kt c))∧w'=w:=by
 go_enter Tryz.func50,Tryz.ntmps50;go_wp2
 all_goals
  go_ret;refine⟨zu ?_,rfl⟩;unfold Kt;rw[Oc];simp
  try omega
theorem aao (c:Int) (w:bf) (h0:0<=c) (h1:c<=255) :
  Calls Tryz.prog 166 #[.int .u8 c] w fun e w'=>e=.returned (.bool (aa9 c))∧w'=w:=by
 go_enter Tryz.func166,Tryz.ntmps166;go_wp2
 all_goals
  go_ret;refine⟨zu ?_,rfl⟩;unfold aa9;rw[Oc];simp
  try omega
theorem aef (c:Int) (w:bf) (h0:0<=c) (h1:c<=255) :
  Calls Tryz.prog 119 #[.int .u8 c] w fun e w'=>e=.returned (.bool (Kt c))∧w'=w:=by
 go_enter Tryz.func119,Tryz.ntmps119;go_wp2
 all_goals
  go_ret;refine⟨zu ?_,rfl⟩;unfold Kt;rw[Oc];simp
  try omega
theorem amn (c:Int) (w:bf) (h0:0<=c) (h1:c<=255) :
  Calls Tryz.prog 169 #[.int .u8 c] w fun e w'=>e=.returned (.bool (V9 c))∧w'=w:=by
 cases hl:aa9 c<;>cases hd:Kt c
 all_goals
  go_enter Tryz.func169,Tryz.ntmps169;go_wp2_with (first|(go_at_call 166;refine(aao _ _ h0 h1).mono ?_;rintro e w' ⟨rfl,rfl⟩;rw[hl])|(go_at_call 119;refine(aef _ _ h0 h1).mono ?_;rintro e w' ⟨rfl,rfl⟩;rw[hd]))
  go_ret;refine⟨zu ?_,rfl⟩;simp[V9,hl,hd]
def qy (s:dh) (i:Nat):Int:=if h:i<s.size then (s[i].toNat:Int) else 0
theorem Qi {s:dh} {i:Nat} (h:i<s.size):qy s i=(s[i].toNat:Int):=by simp[qy,h]
theorem aap (x:UInt8):0<=(x.toNat:Int)∧(x.toNat:Int)<=255:=by have:=x.toNat_lt;omega
def allB (p:Nat->Bool) (i n:Nat):Bool:=decide (∀j,j<n->i<=j->p j=true)
theorem afn {p:Nat->Bool} {i n:Nat} (h:∀j,j<n->i<=j->p j=true):allB p i n=true:=by simpa[allB] using h
theorem ai5 {p:Nat->Bool} {i n k:Nat} (h1:k<n) (h2:i<=k) (h:p k=false):allB p i n=false:=by
 unfold allB;rw[Nl];intro hh;have:=hh k h1 h2;rw[h] at this
 cases this
def I4 (s:dh):Bool:=decide (2<=s.size∧s.size<=10)&&decide (qy s 0=36)&&!decide (qy s 1=48)&&allB (fun i=>Kt (qy s i)) 1 s.size
theorem ar6 (s:dh) (w:bf) (hs:Len s.size) :
  Calls Tryz.prog 109 #[.string s] w fun e w'=>e=.returned (.bool (I4 s))∧w'=w:=by
 unfold Len at hs
 by_cases h1:s.size<2
 ·have e:I4 s=false:=by simp[I4];omega
  rw[e];have d1:decide ((s.size:Int)<2)=true:=by simp;omega
  go_enter Tryz.func109,Tryz.ntmps109;go_wp2;go_ret;exact⟨rfl,rfl⟩
 have d1:decide ((s.size:Int)<2)=false:=by simp;omega
 by_cases h2:10<s.size
 ·have e:I4 s=false:=by simp[I4];omega
  rw[e];have d2:decide (10<(s.size:Int))=true:=by simp;omega
  go_enter Tryz.func109,Tryz.ntmps109;go_wp2;go_ret;exact⟨rfl,rfl⟩
 have d2:decide (10<(s.size:Int))=false:=by simp;omega
 have g0:0<s.size:=by omega
 have g1:1<s.size:=by omega
 have b0:=Qi g0;have b1:=Qi g1
 by_cases h3:(s[0].toNat:Int)=36
 case neg =>
  have e:I4 s=false:=by simp[I4,b0,h3]
  rw[e];have d3:((s[0].toNat:Int) != 36)=true:=by rw[bne_iff_ne];exact h3
  clear b0 b1 e;go_enter Tryz.func109,Tryz.ntmps109;go_wp2;go_ret;exact⟨rfl,rfl⟩
 have d3:((s[0].toNat:Int) != 36)=false:=by simp[h3]
 by_cases h4:(s[1].toNat:Int)=48
 ·have e:I4 s=false:=by simp[I4,b1,h4]
  rw[e];have d4:((s[1].toNat:Int) == 48)=true:=by simp[h4]
  clear b0 b1 e h3 h4;go_enter Tryz.func109,Tryz.ntmps109;go_wp2;go_ret;exact⟨rfl,rfl⟩
 have d4:((s[1].toNat:Int) == 48)=false:=by simp[h4]
 have e:I4 s=allB (fun i=>Kt (qy s i)) 1 s.size:=by
  simp only[I4,b0,b1,h3,h4];simp;intro h;omega
 rw[e];clear b0 b1 e h3 h4;go_enter Tryz.func109,Tryz.ntmps109;go_wp2
 go_loopg [3] (s.size-1) (fun g i wr=>∃(k:Nat),k<=s.size∧1<=k∧g=s.size-k∧i=.int .i64 k∧wr=w∧∀j,j<k->1<=j->Kt (qy s j)=true)
 case atStart=>exact⟨1,by omega,gq _,by omega,rfl,rfl,fun j h1 h2=>by omega⟩
 case round =>
  obtain⟨k,hk,hk1,hg,rfl,rfl,hall⟩:=hrel;have HG:=hide hg;have HA:=hide hall;clear hg hall
  by_cases hlt:k<s.size
  ·have hbd:=aap s[k]
   cases hd:Kt (s[k].toNat:Int)
   ·have F:allB (fun i=>Kt (qy s i)) 1 s.size=false:=ai5 hlt hk1 (by rw[Qi hlt];exact hd)
    have HF:=hide F;clear F;go_wp2_with (go_at_call 50;refine(Uk _ _ (by omega) (by omega)).mono ?_;rintro e w' ⟨rfl,rfl⟩;rw[hd]);go_ret;exact⟨zu (uh HF).symm,rfl⟩
   ·have A':∀j,j<k+1->1<=j->Kt (qy s j)=true:=by
     intro j h1 h2
     by_cases e:j=k
     ·subst e;rw[Qi hlt];exact hd
     ·exact uh HA j (by omega) h2
    have HA':=hide A';clear A';go_wp2_with (go_at_call 50;refine(Uk _ _ (by omega) (by omega)).mono ?_;rintro e w' ⟨rfl,rfl⟩;rw[hd])
    go_roundg (s.size-(k+1))
    case measure=>have:=uh HG;omega
    case rel=>exact⟨k+1,by omega,by omega,rfl,by go_num,rfl,uh HA'⟩
  ·have e:k=s.size:=by omega
   have T:allB (fun i=>Kt (qy s i)) 1 s.size=true:=afn (by have:=uh HA;rw[e] at this;exact this);have HT:=hide T;clear T;go_wp2;go_ret;exact⟨zu (uh HT).symm,rfl⟩
def putCells (w:bf) (b:Nat):Nat->List Value->bf
 | _,[]=>w
 | i,c::cs=>(putCells w b (i+1) cs).setCell ⟨b,i,none⟩ c
def Yz (w:bf) (b:Nat):Nat->List Value->bf
 | _,[]=>w
 | i,c::cs=>Yz (w.setCell ⟨b,i,none⟩ c) b (i+1) cs
theorem au6 {w:bf} {b n:Nat} (h:Nk w b n) (i:Nat) (cs:List Value):Nk (Yz w b i cs) b n:=by
 induction cs generalizing w i with
 | nil=>exact h
 | cons c cs ih=>exact ih (h.set i c) (i+1)
theorem La (w:bf) (b i:Nat) (u:Value) (p:Addr) (h:p.block≠b∨p.off≠i):(w.setCell ⟨b,i,none⟩ u).cell? p=w.cell? p:=by
 simp only[World.cell?,World.setCell,Array.getElem?_modify]
 by_cases hb:p.block=b
 ·have hi:p.off≠i:=by rcases h with h|h;exact absurd hb h;exact h
  subst hb;simp only[if_true]
  cases hh:w.heap[p.block]? with
  | none=>simp
  | some o =>
   cases o with
   | cells c t f =>
    simp[Ne.symm hi]
   | _=>simp
 ·rw[ay (fun h=>hb h.symm)]
theorem alo (w:bf) (b i:Nat) (cs:List Value) (p:Addr) (h:p.block≠b∨p.off<i∨i+cs.length<=p.off):(Yz w b i cs).cell? p=w.cell? p:=by
 induction cs generalizing w i with
 | nil=>rfl
 | cons c cs ih =>
  simp only[Yz];rw[ih _ _ (by simp only[uf] at h;omega)];exact La _ _ _ _ _ (by simp only[uf] at h;omega)
theorem amo {w:bf} {b n:Nat} (h:Nk w b n) {i:Nat} (hi:i<n) (u:Value):(w.setCell ⟨b,i,none⟩ u).cell? ⟨b,i,none⟩=some u:=by
 obtain⟨c,t,hb,hn⟩:=h;simp[World.cell?,World.setCell,Array.getElem?_modify,hb,hn,hi]
theorem ayk {w:bf} {b n:Nat} (h:Nk w b n) (i:Nat) (cs:List Value) (hl:i+cs.length<=n) (j:Nat) (hj:j<cs.length):(Yz w b i cs).cell? ⟨b,i+j,none⟩=some cs[j]:=by
 induction cs generalizing w i j with
 | nil=>exact absurd hj (yt _)
 | cons c cs ih =>
  simp only[uf] at hl hj;simp only[Yz]
  cases j with
  | zero =>
   rw[alo _ _ _ _ _ (Or.inr (Or.inl (by simp)))];exact amo h (by omega) c
  | succ j =>
   have:=ih (h.set i c) (i+1) (by omega) j (by omega);rw[show i+(j+1)=i+1+j from by omega];simpa using this
theorem ai6 {lo hi:Nat} {w w':bf} (h:Kept lo hi w w') {b:Nat} (hb:b<lo) (i:Nat) (cs:List Value):Kept lo hi w (Yz w' b i cs):=by
 induction cs generalizing w' i with
 | nil=>exact h
 | cons c cs ih=>exact ih (h.setCell (p:=⟨b,i,none⟩) hb c) (i+1)
theorem apy {B:Nat} {w w':bf} (h:Below B w w') {b:Nat} (hb:B<=b) (i:Nat) (cs:List Value):Below B w (Yz w' b i cs):=by
 induction cs generalizing w' i with
 | nil=>exact h
 | cons c cs ih=>exact ih (h.setCell (p:=⟨b,i,none⟩) hb c) (i+1)
theorem au7 {α:Type} {sz:Nat} {R:Nat->bf->List Value->α->Prop} (hK:Qh R) (hL:Lowers R) {w wr w1:bf} {b:Nat} {xs:List α} {k:Nat} (hlt:k<xs.length) {B:Nat} (hB:B<=b) (hbl:Below B w wr)
  (hrow:Nk wr b (xs.length*sz)) (hfil:afm sz R (b+1) wr b xs k) (hb1:Below wr.heap.size wr w1) {cs:List Value} (hcs:cs.length=sz) (hR:R wr.heap.size w1 cs xs[k]) :
  Below B w (Yz w1 b (k*sz) cs)∧Nk (Yz w1 b (k*sz) cs) b (xs.length*sz)∧afm sz R (b+1) (Yz w1 b (k*sz) cs) b xs (k+1):=by
 have hrow1:=hrow.below hb1;have hblt:=hrow.lt;have hB':B<=wr.heap.size:=by omega
 refine⟨apy (hbl.trans (hb1.mono hB')) hB _ _,au6 hrow1 _ _,fun i hi hik=>?_⟩
 by_cases e:i=k
 ·subst e
  have hfit:i*sz+cs.length<=xs.length*sz:=by
   rw[hcs];have:(i+1)*sz<=xs.length*sz:=Nat.mul_le_mul_right _ hlt;rw[Nat.add_mul] at this;omega
  exact⟨cs,hcs,fun j hj=>ayk hrow1 _ _ hfit j hj,hK _ _ _ _ _ (ai6 (Kept.refl _ _ _) (Ri _) _ _) (hL _ _ _ _ _ (by omega) hR)⟩
 ·obtain⟨cs',hcs',hc',hR'⟩:=hfil i hi (by omega)
  refine⟨cs',hcs',fun j hj=>?_,hK _ _ _ _ _ (ai6 (Kept.of_below hb1) (Ri _) _ _) hR'⟩
  have hlo:i*sz+j<k*sz:=by
   have:(i+1)*sz<=k*sz:=Nat.mul_le_mul_right _ (by omega);rw[Nat.add_mul] at this;omega
  rw[alo _ _ _ _ _ (Or.inr (Or.inl hlo)),hb1.cell (p:=⟨b,_,none⟩) hblt];exact hc' j hj
structure afo (B:Nat) (w w':bf):Prop where
 below:Below B w w'
 free:∀k,B<=k->k<w'.heap.size->∃c t,w'.heap[k]?=some (.cells c t (0,0))
theorem afo.refl (w:bf):afo w.heap.size w w:=⟨gy _ _,fun k h1 h2=>absurd h2 (by omega)⟩
theorem afo.alloc {B:Nat} {a w:bf} (h:afo B a w) (hB:B<=w.heap.size) (c:Array Value) {t:TypeId}:afo B a (w.alloc (.cells c t)):=by
 refine⟨h.below.alloc hB _,fun k h1 h2=>?_⟩
 by_cases e:k<w.heap.size
 ·obtain⟨c1,t1,h3⟩:=h.free k h1 e
  exact⟨c1,t1,(Below.heap_alloc _ _ _ e).trans h3⟩
 ·have e2:k=w.heap.size:=by simp at h2;omega
  subst e2;exact⟨c,t,by show (w.heap.push _)[w.heap.size]?=_;rw[Array.getElem?_push_size]⟩
theorem afo.setCell {B:Nat} {a w:bf} (h:afo B a w) {p:Addr} (hp:B<=p.block) (u:Value):afo B a (w.setCell p u):=by
 refine⟨h.below.setCell hp _,fun k h1 h2=>?_⟩;have h2':k<w.heap.size:=by simpa[World.setCell] using h2
 obtain⟨c1,t1,h3⟩:=h.free k h1 h2'
 by_cases e:k=p.block
 ·subst e
  refine⟨if p.spot.isSome then c1 else c1.setIfInBounds p.off u,t1,?_⟩;simp only[World.setCell,Array.getElem?_modify,if_true,h3,Option.map_some]
 ·exact⟨c1,t1,(yx _ _ _ _ e).trans h3⟩
theorem au8 {α:Type} (sz:Nat) (R:Nat->bf->List Value->α->Prop) (lo:Nat) (w:bf) (b:Nat) (xs:List α):afm sz R lo w b xs 0:=fun _ _ h=>absurd h (yt _)
theorem au9 {α:Type} {sz qy:Nat} {R:Nat->bf->List Value->α->Prop} (hL:Lowers R) {wr:bf} {b:Nat} {xs:List α} (hb:b<wr.heap.size) (h1:Len (xs.length*qy)) (h2:Len xs.length) (hfil:afm sz R (b+1) wr b xs xs.length) :
  iy sz qy R b wr (.slice (some ⟨b,0,none⟩) xs.length xs.length) xs:=by
 refine⟨_,_,rfl,⟨h1,gq _⟩,h2,fun i hi=>?_⟩;obtain⟨cs,hcs,hc,hR⟩:=hfil i hi hi;exact⟨b,0,cs,rfl,gq _,hb,hcs,fun j hj=>by rw[Bh];exact hc j hj,hL _ _ _ _ _ (Nat.le_succ _) hR⟩
def kws:List dh:=[⟨#[110,111,100,101]⟩,⟨#[114,101,116,117,114,110,115]⟩,⟨#[118,97,114]⟩,⟨#[108,101,116]⟩,⟨#[116,101,108]⟩,⟨#[105,110,116]⟩,⟨#[98,111,111,108]⟩,⟨#[119,104,101,110]⟩,⟨#[119,104,101,110,111,116]⟩,⟨#[105,102]⟩,⟨#[116,104,101,110]⟩,⟨#[101,108,115,101]⟩,⟨#[102,98,121]⟩,⟨#[109,101,114,103,101]⟩,⟨#[116,114,117,101]⟩,⟨#[102,97,108,115,101]⟩,⟨#[97,110,100]⟩,⟨#[111,114]⟩,⟨#[120,111,114]⟩,⟨#[110,111,116]⟩,⟨#[109,111,100]⟩]
def kwB (s:dh):Bool:=s.toList == [110,111,100,101]||s.toList == [114,101,116,117,114,110,115]||s.toList == [118,97,114]||s.toList == [108,101,116]||s.toList == [116,101,108]||s.toList == [105,110,116]||s.toList == [98,111,111,108]||s.toList == [119,104,101,110]||s.toList == [119,104,101,110,111,116]||s.toList == [105,102]||s.toList == [116,104,101,110]||s.toList == [101,108,115,101]||s.toList == [102,98,121]||s.toList == [109,101,114,103,101]||s.toList == [116,114,117,101]||s.toList == [102,97,108,115,101]||s.toList == [97,110,100]||s.toList == [111,114]||s.toList == [120,111,114]||s.toList == [110,111,116]||s.toList == [109,111,100]
def inB (l:List dh) (s:dh):Bool:=l.any (fun x=>x.toList == s.toList)
theorem ava:∀x,x∈kws->x.size<=7:=by decide
theorem afi (w:bf) :
  Calls Tryz.prog 136 #[] w fun e w'=>∃v,e=.returned v∧iy 1 16 wz w.heap.size w' v kws∧Below w.heap.size w w':=by
 go_enter Tryz.func136,Tryz.ntmps136;go_wp2;go_ret;refine⟨_,rfl,?_,(gy _ _).alloc (gq _) _⟩;refine⟨_,_,rfl,by simp[Len,kws],by simp[Len,kws],fun i hi=>⟨_,_,[.string kws[i]],rfl,gq _,by simp,rfl,?_,rfl,?_⟩⟩
 ·intro j hj
  have hj0:j=0:=by simpa using hj
  subst hj0
  have hc:∀(i:Nat) (hi:i<kws.length),(kws.map Value.string).toArray[i]?=some (.string kws[i]):=by
   intro i hi;simp[hi]
  rw[zy _ _ _ _ rfl];simp only[Bh,jr,jh];exact hc i hi
 ·have:=ava kws[i] (pz hi)
  unfold Len;omega
theorem afp (s:dh) (w:bf) :
  Calls Tryz.prog 167 #[.string s] w fun e w'=>e=.returned (.bool (kwB s))∧w'=w:=by
 go_enter Tryz.func167,Tryz.ntmps167;go_wp2
 all_goals
  go_ret;refine⟨zu ?_,rfl⟩
  simp_all [kwB]
theorem adl (l:List dh) (v:Value) (s:dh) (w:bf) (hv:iy 1 16 wz 0 w v l) :
  Calls Tryz.prog 112 #[v,.string s] w fun e w'=>e=.returned (.bool (inB l s))∧w'=w:=by
 obtain⟨a,cap,rfl,_,hn,hx⟩:=hv;unfold Len at hn;have HX:=hide hx;clear hx;go_enter Tryz.func112,Tryz.ntmps112;go_wp2
 go_loopg [6,9] l.length (fun g x i wr=>∃(k:Nat),k<=l.length∧g=l.length-k∧i=.int .i64 k∧wr=w∧∀j (h:j<l.length),j<k->(l[j].toList == s.toList)=false)
 case atStart=>exact⟨0,by omega,by omega,rfl,rfl,fun j _ h2=>by omega⟩
 case round =>
  obtain⟨k,hk,hg,rfl,rfl,hall⟩:=hrel;have HG:=hide hg;have HA:=hide hall;clear hg hall
  by_cases hlt:k<l.length
  ·obtain⟨b,o,cs,rfl,_,hb,hcs,hc,hR⟩:=uh HX k hlt
   obtain⟨rfl,hsn⟩:=hR;have c0:=hc 0 (by simp);simp only[jr,jh,ny,o8] at c0;clear hc hcs
   cases he:(l[k].toList == s.toList)
   ·have A':∀j (h:j<l.length),j<k+1->(l[j].toList == s.toList)=false:=by
     intro j h h1
     by_cases e:j=k
     ·subst e;exact he
     ·exact uh HA j h (by omega)
    have HA':=hide A';clear A';go_wp2
    go_roundg (l.length-(k+1))
    case measure=>have:=uh HG;omega
    case rel=>exact⟨k+1,by omega,rfl,by go_num,rfl,uh HA'⟩
   ·have T:inB l s=true:=by
     unfold inB;rw[List.any_eq_true];exact⟨l[k],pz hlt,he⟩
    have HT:=hide T;clear T;go_wp2;go_ret;exact⟨zu (uh HT).symm,rfl⟩
  ·have e:k=l.length:=by omega
   have T:inB l s=false:=by
    unfold inB;rw[List.any_eq_false];intro x hx;obtain⟨j,hj,rfl⟩:=List.getElem_of_mem hx;rw[uh HA j hj (by omega)];decide
   have HT:=hide T;clear T;go_wp2;go_ret;exact⟨zu (uh HT).symm,rfl⟩
theorem aqs (s:dh):inB kws s=kwB s:=by
 simp only[inB,kws,kwB,List.any_cons,List.any_nil,ByteArray.toList_eq,Bool.or_false,BEq.comm (a:=s.data.toList),Bool.or_assoc]
def Gg (s:dh):Bool:=decide (1<=s.size∧s.size<=40)&&aa9 (qy s 0)&&!kwB s&&allB (fun i=>V9 (qy s i)) 0 s.size
def Ans (v:Value) (w:bf) (e:Ending) (w':bf):Prop:=e=.returned v∧Below w.heap.size w w'
theorem ai7 (s:dh) (w:bf) (hs:Len s.size) :
  Calls Tryz.prog 108 #[.string s] w (Ans (.bool (Gg s)) w):=by
 unfold Len at hs
 by_cases h1:s.size<1
 ·have e:Gg s=false:=by simp[Gg];omega
  rw[e];have d1:decide ((s.size:Int)<1)=true:=by simp;omega
  clear e;go_enter Tryz.func108,Tryz.ntmps108;go_wp2;go_ret;exact⟨rfl,gy _ _⟩
 have d1:decide ((s.size:Int)<1)=false:=by simp;omega
 by_cases h2:40<s.size
 ·have e:Gg s=false:=by simp[Gg];omega
  rw[e];have d2:decide (40<(s.size:Int))=true:=by simp;omega
  clear e;go_enter Tryz.func108,Tryz.ntmps108;go_wp2;go_ret;exact⟨rfl,gy _ _⟩
 have d2:decide (40<(s.size:Int))=false:=by simp;omega
 have g0:0<s.size:=by omega
 have b0:=Qi g0;have hb0:=aap s[0]
 cases hl:aa9 (s[0].toNat:Int)
 ·have e:Gg s=false:=by simp[Gg,b0,hl]
  rw[e];clear e b0;go_enter Tryz.func108,Tryz.ntmps108;go_wp2_with (go_at_call 135;refine(Xg _ _ (by omega) (by omega)).mono ?_;rintro e w' ⟨rfl,rfl⟩;rw[hl]);go_ret;exact⟨rfl,gy _ _⟩
 cases hkw:kwB s
 ·have e:Gg s=allB (fun i=>V9 (qy s i)) 0 s.size:=by
   have:1<=s.size∧s.size<=40:=by omega
   simp[Gg,b0,hl,hkw,this]
  rw[e];clear e b0;have HK:=hide hkw;clear hkw;go_enter Tryz.func108,Tryz.ntmps108;go_wp2_with fail;refine(Xg _ _ (by omega) (by omega)).mono ?_;rintro e w' ⟨rfl,rfl⟩;rw[hl];go_wp2_with fail;refine(afi _).mono ?_;rintro e w1 ⟨v,rfl,hv,hbl⟩;obtain⟨av,cv,rfl⟩:=hv.shape;have HV:=hide hv;clear hv;go_wp2_with fail;refine(adl kws _ s _ ?_).mono ?_
  ·exact(uh HV).lower Xf (jg _)
  rintro e w1 ⟨rfl,rfl⟩;rw[aqs,uh HK];clear HV;go_wp2
  go_loopg [3] s.size (fun g i wr=>∃(k:Nat),k<=s.size∧g=s.size-k∧i=.int .i64 k∧wr=w1∧∀j,j<k->0<=j->V9 (qy s j)=true)
  case atStart=>exact⟨0,by omega,by omega,rfl,rfl,fun j h1 h2=>by omega⟩
  case round =>
   obtain⟨k,hk,hg,rfl,rfl,hall⟩:=hrel;have HG:=hide hg;have HA:=hide hall;clear hg hall
   by_cases hlt:k<s.size
   ·have hbd:=aap s[k]
    have W:V9 (qy s k)=(aa9 (s[k].toNat:Int)||Kt (s[k].toNat:Int)||(s[k].toNat:Int) == 95):=by rw[Qi hlt];rfl
    cases hl:aa9 (s[k].toNat:Int)<;>cases hd:Kt (s[k].toNat:Int)<;>cases hu:((s[k].toNat:Int) == 95)
    case false.false.false =>
     have hu':((s[k].toNat:Int) != 95)=true:=by rw[bne,hu];rfl
     have F:allB (fun i=>V9 (qy s i)) 0 s.size=false:=ai5 hlt (jg _) (by rw[W,hl,hd,hu];rfl);have HF:=hide F;clear F W;go_wp2_with (first|(go_at_call 135;refine(Xg _ _ (by omega) (by omega)).mono ?_;rintro e w' ⟨rfl,rfl⟩;rw[hl])|(go_at_call 50;refine(Uk _ _ (by omega) (by omega)).mono ?_;rintro e w' ⟨rfl,rfl⟩;rw[hd]))
     go_ret;exact⟨zu (uh HF).symm,hbl⟩
    all_goals
     have hu':((s[k].toNat:Int) != 95)=!((s[k].toNat:Int) == 95):=rfl;rw[hu] at hu'
     have A':∀j,j<k+1->0<=j->V9 (qy s j)=true:=by
      intro j h1 h2
      by_cases e:j=k
      ·subst e;rw[W,hl,hd,hu];rfl
      ·exact uh HA j (by omega) h2
     have HA':=hide A';clear A' W;go_wp2_with (first|(go_at_call 135;refine(Xg _ _ (by omega) (by omega)).mono ?_;rintro e w' ⟨rfl,rfl⟩;rw[hl])|(go_at_call 50;refine(Uk _ _ (by omega) (by omega)).mono ?_;rintro e w' ⟨rfl,rfl⟩;rw[hd]))
     go_roundg (s.size-(k+1))
     case measure=>have:=uh HG;omega
     case rel=>exact⟨k+1,by omega,rfl,by go_num,rfl,uh HA'⟩
   ·have e:k=s.size:=by omega
    have T:allB (fun i=>V9 (qy s i)) 0 s.size=true:=afn (by have:=uh HA;rw[e] at this;exact this);have HT:=hide T;clear T;go_wp2;go_ret;exact⟨zu (uh HT).symm,hbl⟩
 ·have e:Gg s=false:=by simp[Gg,hkw]
  rw[e];clear e b0;have HK:=hide hkw;clear hkw;go_enter Tryz.func108,Tryz.ntmps108;go_wp2_with fail;refine(Xg _ _ (by omega) (by omega)).mono ?_;rintro e w' ⟨rfl,rfl⟩;rw[hl];go_wp2_with fail;refine(afi _).mono ?_;rintro e w1 ⟨v,rfl,hv,hbl⟩;obtain⟨av,cv,rfl⟩:=hv.shape;have HV:=hide hv;clear hv;go_wp2_with fail;refine(adl kws _ s _ ?_).mono ?_
  ·exact(uh HV).lower Xf (jg _)
  rintro e w1 ⟨rfl,rfl⟩;rw[aqs,uh HK];go_wp2;go_ret;exact⟨rfl,hbl⟩
def nameB (s:dh):Bool:=Gg s||I4 s
theorem aci (s:dh) (w:bf) (hs:Len s.size) :
  Calls Tryz.prog 80 #[.string s] w (Ans (.bool (nameB s)) w):=by
 cases hp:Gg s
 ·have e:nameB s=I4 s:=by simp[nameB,hp]
  rw[e];clear e;go_enter Tryz.func80,Tryz.ntmps80;go_wp2_with fail;refine(ai7 s _ hs).mono ?_;rintro e w1 ⟨rfl,hb⟩;rw[hp];go_wp2_with fail;refine(ar6 s _ hs).mono ?_;rintro e w' ⟨rfl,rfl⟩;go_wp2;go_ret;exact⟨rfl,hb⟩
 ·have e:nameB s=true:=by simp[nameB,hp]
  rw[e];clear e;go_enter Tryz.func80,Tryz.ntmps80;go_wp2_with fail;refine(ai7 s _ hs).mono ?_;rintro e w1 ⟨rfl,hb⟩;rw[hp];go_wp2;go_ret;exact⟨rfl,hb⟩
theorem avb (t:Int) (w:bf):Calls Tryz.prog 170 #[.int .i64 t] w (fun e w'=>e=.returned (.bool (decide (t=1∨t=2)))∧w'=w):=by
 by_cases h1:t=1
 ·subst h1
  go_enter Tryz.func170,Tryz.ntmps170;go_wp2;go_ret;exact⟨rfl,rfl⟩
 ·by_cases h2:t=2
  ·subst h2
   go_enter Tryz.func170,Tryz.ntmps170;go_wp2;go_ret;exact⟨rfl,rfl⟩
  ·rw[iw (fun h=>by rcases h with h|h;exact h1 h;exact h2 h)]
   have b1:(t == 1)=false:=by rw[su];exact h1
   have b2:(t == 2)=false:=by rw[su];exact h2
   go_enter Tryz.func170,Tryz.ntmps170;go_wp2;go_ret;exact⟨rfl,rfl⟩
def acj (_:Nat) (_:bf) (cs:List Value) (x:Int):Prop:=cs=[.int .u8 x]∧0<=x∧x<=255
theorem ai8:Qh acj:=fun _ _ _ _ _ _ h=>h
def Yd (cs:List Value):Value:=cs.headD (.bool false)
def am9 (cs:List Value):Value:=cs.headD (.bool false)
def ai9 (cs:List Value):Value:=cs.headD (.bool false)
def alp (cs:List Value):Value:=.agg cs.toArray
theorem ach (p:Int->Bool) (hf:∀(x:Int) cs w,acj 0 w cs x->Calls Tryz.prog 169 #[Yd cs] w (Ans (.bool (p x)) w)) (xs:List Int) (v:Value) (w:bf) (hv:iy 1 1 acj 0 w v xs) :
  Calls Tryz.prog 168 #[v,.func (.func 169) #[] #[]] w (Ans (.bool (xs.all p)) w):=by
 obtain⟨a,cap,rfl,_,hn,hx⟩:=hv;unfold Len at hn;have HX:=hide hx;have Si:=hide hf;clear hx hf;go_enter Tryz.func168,Tryz.ntmps168;go_wp2
 go_loopg [6,9] xs.length (fun g x i wr=>∃(k:Nat),k<=xs.length∧g=xs.length-k∧i=.int .i64 k∧Below w.heap.size w wr∧∀j (h:j<xs.length),j<k->p xs[j]=true)
 case atStart=>exact⟨0,jg _,by omega,rfl,gy _ _,fun j _ h=>absurd h (yt _)⟩
 case round =>
  obtain⟨k,hk,hg,rfl,hbl,hall⟩:=hrel;have HG:=hide hg;have HA:=hide hall;clear hg hall
  by_cases hlt:k<xs.length
  ·obtain⟨b,o,cs,rfl,_,hb,hcs,hc,hR⟩:=uh HX k hlt
   have hR:=ai8.stays _ _ _ _ _ hbl hR;have hc:∀j (hj:j<cs.length),wr.cell? ⟨b,o+k*1+j,none⟩=some cs[j]:=fun j hj=>by rw[hbl.cell (p:=⟨b,_,none⟩) hb];exact hc j hj
   have hcall:=uh Si xs[k] cs wr hR;obtain⟨rfl,hx0,hx1⟩:=hR;have c0:=hc 0 (by simp);simp only[jr,jh,ny,o8] at c0;simp only[Yd,List.headD_cons] at hcall;have HC:=hide hcall;clear hc hcs hcall
   cases hp:p xs[k]
   ·have F:xs.all p=false:=by
     rw[List.all_eq_false];exact⟨xs[k],pz hlt,by rw[hp];decide⟩
    have HF:=hide F;clear F;go_wp2_with fail;refine(uh HC).mono ?_;rintro e w1 ⟨rfl,hb1⟩;rw[hp];go_wp2;go_ret;exact⟨zu (uh HF).symm,hbl.trans (hb1.mono hbl.size)⟩
   ·have A':∀j (h:j<xs.length),j<k+1->p xs[j]=true:=by
     intro j h h1
     by_cases e:j=k
     ·subst e;exact hp
     ·exact uh HA j h (by omega)
    have HA':=hide A';clear A';go_wp2_with fail;refine(uh HC).mono ?_;rintro e w1 ⟨rfl,hb1⟩;rw[hp];go_wp2
    go_roundg (xs.length-(k+1))
    case measure=>have:=uh HG;omega
    case rel=>exact⟨k+1,by omega,rfl,by go_num,hbl.trans (hb1.mono hbl.size),uh HA'⟩
  ·have e:k=xs.length:=by omega
   have T:xs.all p=true:=by
    rw[xw];intro x hx;obtain⟨j,hj,rfl⟩:=List.getElem_of_mem hx;exact uh HA j hj (by omega)
   have HT:=hide T;clear T;go_wp2;go_ret;exact⟨zu (uh HT).symm,hbl⟩
theorem aeg (p:Int->Bool) (hf:∀(x:Int) cs w,acj 0 w cs x->Calls Tryz.prog 119 #[Yd cs] w (Ans (.bool (p x)) w)) (xs:List Int) (v:Value) (w:bf) (hv:iy 1 1 acj 0 w v xs) :
  Calls Tryz.prog 168 #[v,.func (.func 119) #[] #[]] w (Ans (.bool (xs.all p)) w):=by
 obtain⟨a,cap,rfl,_,hn,hx⟩:=hv;unfold Len at hn;have HX:=hide hx;have Si:=hide hf;clear hx hf;go_enter Tryz.func168,Tryz.ntmps168;go_wp2
 go_loopg [6,9] xs.length (fun g x i wr=>∃(k:Nat),k<=xs.length∧g=xs.length-k∧i=.int .i64 k∧Below w.heap.size w wr∧∀j (h:j<xs.length),j<k->p xs[j]=true)
 case atStart=>exact⟨0,jg _,by omega,rfl,gy _ _,fun j _ h=>absurd h (yt _)⟩
 case round =>
  obtain⟨k,hk,hg,rfl,hbl,hall⟩:=hrel;have HG:=hide hg;have HA:=hide hall;clear hg hall
  by_cases hlt:k<xs.length
  ·obtain⟨b,o,cs,rfl,_,hb,hcs,hc,hR⟩:=uh HX k hlt
   have hR:=ai8.stays _ _ _ _ _ hbl hR;have hc:∀j (hj:j<cs.length),wr.cell? ⟨b,o+k*1+j,none⟩=some cs[j]:=fun j hj=>by rw[hbl.cell (p:=⟨b,_,none⟩) hb];exact hc j hj
   have hcall:=uh Si xs[k] cs wr hR;obtain⟨rfl,hx0,hx1⟩:=hR;have c0:=hc 0 (by simp);simp only[jr,jh,ny,o8] at c0;simp only[Yd,List.headD_cons] at hcall;have HC:=hide hcall;clear hc hcs hcall
   cases hp:p xs[k]
   ·have F:xs.all p=false:=by
     rw[List.all_eq_false];exact⟨xs[k],pz hlt,by rw[hp];decide⟩
    have HF:=hide F;clear F;go_wp2_with fail;refine(uh HC).mono ?_;rintro e w1 ⟨rfl,hb1⟩;rw[hp];go_wp2;go_ret;exact⟨zu (uh HF).symm,hbl.trans (hb1.mono hbl.size)⟩
   ·have A':∀j (h:j<xs.length),j<k+1->p xs[j]=true:=by
     intro j h h1
     by_cases e:j=k
     ·subst e;exact hp
     ·exact uh HA j h (by omega)
    have HA':=hide A';clear A';go_wp2_with fail;refine(uh HC).mono ?_;rintro e w1 ⟨rfl,hb1⟩;rw[hp];go_wp2
    go_roundg (xs.length-(k+1))
    case measure=>have:=uh HG;omega
    case rel=>exact⟨k+1,by omega,rfl,by go_num,hbl.trans (hb1.mono hbl.size),uh HA'⟩
  ·have e:k=xs.length:=by omega
   have T:xs.all p=true:=by
    rw[xw];intro x hx;obtain⟨j,hj,rfl⟩:=List.getElem_of_mem hx;exact uh HA j hj (by omega)
   have HT:=hide T;clear T;go_wp2;go_ret;exact⟨zu (uh HT).symm,hbl⟩
def Zo (s:dh):List Int:=s.data.toList.map (fun b=>(b.toNat:Int))
theorem abf (s:dh):(Zo s).length=s.size:=by simp[Zo]
theorem adn (s:dh) (i:Nat) (h:i<(Zo s).length):(Zo s)[i]=qy s i:=by
 have h':i<s.size:=by rw[abf] at h;exact h
 rw[Qi h'];simp[Zo];rfl
theorem bytes_at (w:bf) (e:TypeId) (s:dh) (cap:Nat) (hs:Len s.size) (hcap:s.size<=cap) :
  iy 1 1 acj 0 (Lib.bytesWorld w e s) (.slice (some ⟨w.heap.size,0,none⟩) s.size cap) (Zo s):=by
 have hl:=abf s;refine⟨_,cap,by rw[hl],⟨by rw[hl,jr];exact hs,by rw[hl];exact hcap⟩,by rw[hl];exact hs,fun i hi=>?_⟩;have hi':i<s.size:=by omega
 refine⟨_,0,[.int .u8 (Zo s)[i]],rfl,jg _,by rw[Lib.bytesWorld_size];omega,rfl,fun j hj=>?_,rfl,?_,?_⟩
 ·have hj0:j=0:=by simpa using hj
  subst hj0;simp only[Bh,jr,jh,ny];rw[Lib.bytesWorld_cell w e s i hi',adn,Qi hi'];simp[List.getD,hi'];rfl
 ·rw[adn,Qi hi'];exact(aap _).1
 ·rw[adn,Qi hi'];exact(aap _).2
theorem aaq (w:bf) (e:TypeId) (s:dh):Below w.heap.size w (Lib.bytesWorld w e s):=by
 refine⟨?_,?_,?_,by rw[Lib.bytesWorld_size];omega,fun k hk=>Lib.bytesWorld_at_old w e s k hk⟩
 all_goals simp[Lib.bytesWorld,World.freeze,World.alloc,World.drew,-World.alloc_eq,-World.drew_eq]
theorem aqt (p:Int->Bool) (s:dh):(Zo s).all p=allB (fun i=>p (qy s i)) 0 s.size:=by
 rw[Oc,xw];constructor
 ·intro h
  refine afn fun j hj _=>?_
  have hj':j<(Zo s).length:=by rw[abf];exact hj
  rw[←adn s j hj'];exact h _ (pz hj')
 ·intro h x hx
  obtain⟨j,hj,rfl⟩:=List.getElem_of_mem hx;rw[adn];have h':=h;unfold allB at h';rw[Eh] at h';exact h' j (by rw[abf] at hj;exact hj) (jg _)
theorem bb8 (x:Int) (cs:List Value) (w:bf) (h:acj 0 w cs x):Calls Tryz.prog 169 #[Yd cs] w (Ans (.bool (V9 x)) w):=by
 obtain⟨rfl,h0,h1⟩:=h;refine(amn x w h0 h1).mono ?_;rintro e w' ⟨rfl,rfl⟩;exact⟨rfl,gy _ _⟩
theorem a6z (x:Int) (cs:List Value) (w:bf) (h:acj 0 w cs x):Calls Tryz.prog 119 #[Yd cs] w (Ans (.bool (Kt x)) w):=by
 obtain⟨rfl,h0,h1⟩:=h;refine(aef x w h0 h1).mono ?_;rintro e w' ⟨rfl,rfl⟩;exact⟨rfl,gy _ _⟩
theorem Nc (s:dh) (h:s.size=0):(s.toList == [])=true:=by
 have e:s.data.toList=[]:=Qe (by rw[Array.length_toList];exact h);rw[ByteArray.toList_eq,e];rfl
theorem O8 (s:dh) (h:s.size≠0):(s.toList == [])=false:=by
 rw[su,ByteArray.toList_eq];intro hh;have:=mg List.length hh;rw[Array.length_toList] at this;exact h this
theorem alq (s:dh) (w:bf) (hs:Len s.size) :
  Calls Tryz.prog 142 #[.string s] w (Ans (.bool (Gg s)) w):=by
 have HS:=hide hs;unfold Len at hs
 by_cases h1:s.size<1
 ·have e:Gg s=false:=by simp[Gg];omega
  rw[e];have d1:(s.toList == [])=true:=Nc s (by omega);clear e;go_enter Tryz.func142,Tryz.ntmps142;go_wp2;go_ret;exact⟨rfl,gy _ _⟩
 have d1:(s.toList == [])=false:=O8 s (by omega)
 by_cases h2:40<s.size
 ·have e:Gg s=false:=by simp[Gg];omega
  rw[e];have d2:decide (40<(s.size:Int))=true:=by simp;omega
  clear e;go_enter Tryz.func142,Tryz.ntmps142;go_wp2;go_ret;exact⟨rfl,gy _ _⟩
 have d2:decide (40<(s.size:Int))=false:=by simp;omega
 have g0:0<s.size:=by omega
 have b0:=Qi g0;have hb0:=aap s[0]
 cases hl:aa9 (s[0].toNat:Int)
 ·have e:Gg s=false:=by simp[Gg,b0,hl]
  rw[e];clear e b0;go_enter Tryz.func142,Tryz.ntmps142;go_wp2_with (go_at_call 166;refine(aao _ _ (by omega) (by omega)).mono ?_;rintro e w' ⟨rfl,rfl⟩;rw[hl]);go_ret;exact⟨rfl,gy _ _⟩
 cases hkw:kwB s
 ·have e:Gg s=(Zo s).all V9:=by
   rw[aqt];have:1<=s.size∧s.size<=40:=by omega
   simp[Gg,b0,hl,hkw,this]
  rw[e];clear e b0;have hcv:=fun w=>Lib.run_convert_string_bytes (P:=Tryz.prog) w 9 64 5 s Tryz.underlying9 Tryz.underlying64 Tryz.underlying5
  go_enter Tryz.func142,Tryz.ntmps142;go_wp2_with fail;refine(aao _ _ (by omega) (by omega)).mono ?_;rintro e w' ⟨rfl,rfl⟩;rw[hl];go_wp2_with fail;refine(afp _ _).mono ?_;rintro e w' ⟨rfl,rfl⟩;rw[hkw];go_wp2_with fail;refine(ach V9 bb8 (Zo s) _ _ (bytes_at _ _ s _ (uh HS) (grownCap_ge _ _ _ _))).mono ?_;rintro e w1 ⟨rfl,hb⟩;go_wp2;go_ret;exact⟨rfl,(aaq _ _ _).trans (hb.mono (aaq _ _ _).size)⟩
 ·have e:Gg s=false:=by simp[Gg,hkw]
  rw[e];clear e b0;go_enter Tryz.func142,Tryz.ntmps142;go_wp2_with fail;refine(aao _ _ (by omega) (by omega)).mono ?_;rintro e w' ⟨rfl,rfl⟩;rw[hl];go_wp2_with fail;refine(afp _ _).mono ?_;rintro e w' ⟨rfl,rfl⟩;rw[hkw];go_wp2;go_ret;exact⟨rfl,gy _ _⟩
end Go.Proofs.YtfeejeflmcapoaaGreatDoor
