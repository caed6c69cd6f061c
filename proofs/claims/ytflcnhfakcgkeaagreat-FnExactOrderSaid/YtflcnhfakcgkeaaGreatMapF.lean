import Derived.Test.YtflcnhfakcgkeaaGreatData
import Derived.Maps.OwnSet
import Derived.DeepKeys4
import Derived.Test.YtflcnhfakcgkeaaGreatProg
import Derived.KernelRfl
import Derived.WalkLawsBesides
import Derived.Deep.LoopGhost
import Derived.Test.YtflcnhfakcgkeaaGreatFill
namespace Go.Proofs.YtflcnhfakcgkeaaGreat
open Go.RowKit
open Go.Maps (Keyed IsMap)
set_option linter.unusedVariables false
def afn (v:Value):Option (DataW Value × List MemPlace):=some (.held v,[])
def Dh (P:Program) (k:TypeId) (z:Value) (w:World) (b n:Nat) (f:ByteArray->Value):Prop :=
 ∃D,w.ownsMap P k afn b n D∧∀s:ByteArray,D.atKey (.string s.data.toList) (.held z)=.held (f s)
variable {P:Program} {k:TypeId} {z:Value} {w:World} {b n:Nat} {f:ByteArray->Value}
theorem Dh.made (w:World):Dh P k z (w.alloc (.map #[] 0)) w.heap.size 0 (fun _=>z) :=
 ⟨.map [],World.ownsMap_made w P k afn,fun s=>rfl⟩
theorem Dh.lt (h:Dh P k z w b n f):b<w.heap.size:=by
 obtain⟨D,h,_⟩:=h
 exact h.lt
theorem Dh.Qq (h:Dh P k z w b n f) (j:Nat):w.cell? ⟨b,j,none⟩=none:=by
 obtain⟨D,⟨es,clock,h1,_⟩,_⟩:=h
 simp[World.cell?,h1]
theorem Dh.block {w':World} (h:Dh P k z w b n f) (hb:w'.heap[b]?=w.heap[b]?):Dh P k z w' b n f:=by
 obtain⟨D,⟨es,clock,h1,h2,h3,h4⟩,h5⟩:=h
 exact⟨D,⟨es,clock,hb.trans h1,h2,h3,h4⟩,h5⟩
theorem Dh.below {w':World} (h:Dh P k z w b n f) (hb:Below w.heap.size w w'):Dh P k z w' b n f:=h.block (hb.block b h.lt)
theorem Dh.mono {n':Nat} (h:Dh P k z w b n f) (hn:n<=n'):Dh P k z w b n' f:=by
 obtain⟨D,h,h5⟩:=h
 exact⟨D,h.mono hn,h5⟩
theorem Dh.look {t e:TypeId} (h:Dh P k z w b n f) (hk:P.underlying k=some .string) (ht:P.underlying t=some (.map k e)) (hz:(zeroValue e).run P w=.ok z w) {s:ByteArray} (hs:s.size<=maxLen) :
  (Instr.lookup t (.map (some b)) (.string s) false).run P w=.ok (f s) w:=by
 obtain⟨D,h,h5⟩:=h
 obtain⟨v,ps,hrun,hv⟩:=h.lookup (Maps.string_keyed hk) ht hz (zd:=.held z) (zp:=[]) rfl (WideMaps.keyOf_string_mk hk hs)
 rw[h5 s] at hv
 unfold afn at hv
 simp only[Option.some.injEq,Prod.mk.injEq,DataW.held.injEq] at hv
 rw[hrun,hv.1]
theorem bytes_eq {s x:ByteArray} (h:s.data.toList=x.data.toList):s=x:=by
 cases s;cases x
 simp only[ByteArray.mk.injEq]
 exact Array.toList_inj.1 h
theorem Dh.store {t e:TypeId} (h:Dh P k z w b n f) (hk:P.underlying k=some .string) (ht:P.underlying t=some (.map k e)) (hn:n<maxLen) {s:ByteArray} (hs:s.size<=maxLen) (v:Value) :
  ∃w' f',(Instr.mapUpdate t (.map (some b)) (.string s) v).run P w=.ok () w'∧Dh P k z w' b (n+1) f'∧f' s=v∧(∀x,x≠s->f' x=f x)∧w.grownBy w' (some b):=by
 obtain⟨D,h,h5⟩:=h
 obtain⟨w',hrun,ho,hg⟩:=h.update (Maps.string_keyed hk) ht hn (WideMaps.keyOf_string_mk hk hs) (val:=v) (d:=.held v) (ps:=[]) rfl
 refine⟨w',fun x=>if x.data.toList=s.data.toList then v else f x,hrun,⟨_,ho,fun x=>?_⟩,?_,fun x hx=>?_,hg⟩
 ·by_cases hx:x.data.toList=s.data.toList
  ·show _=DataW.held (if _ then _ else _)
   rw[if_pos hx,hx]
   exact Maps.atKey_put_same h.isMap ((Maps.string_keyed hk).key (WideMaps.keyOf_string_mk hk hs)) _ _
  ·show _=DataW.held (if _ then _ else _)
   rw[if_neg hx,Maps.atKey_put_other (by simpa using hx)]
   exact h5 x
 ·simp
 ·exact if_neg (fun h=>hx (bytes_eq h))
end Go.Proofs.YtflcnhfakcgkeaaGreat
namespace Go.Proofs.YtflcnhfakcgkeaaGreat
open Go.RowKit
open Go.Maps (Keyed IsMap)
set_option linter.unusedVariables false
structure aod (P:Program) (k:TypeId) (α:Type) where
 val:α->Value
 lit:α->Lit
 ok:α->Prop
 law:Keyed P k
 reads:∀a,ok a->keyOf P k (val a)=some (lit a)
 inj:∀a b,val a=val b->a=b
variable {P:Program} {k:TypeId} {α:Type} (E:aod P k α) {z:Value} {w:World} {b n:Nat} {f:α->Value}
def I9 (z:Value) (w:World) (b n:Nat) (f:α->Value):Prop :=
 ∃D,w.ownsMap P k afn b n D∧∀a,E.ok a->D.atKey (E.lit a) (.held z)=.held (f a)
variable {E}
theorem I9.made (w:World):I9 E z (w.alloc (.map #[] 0)) w.heap.size 0 (fun _=>z) :=
 ⟨.map [],World.ownsMap_made w P k afn,fun s _=>rfl⟩
theorem I9.lt (h:I9 E z w b n f):b<w.heap.size:=by
 obtain⟨D,h,_⟩:=h
 exact h.lt
theorem I9.Qq (h:I9 E z w b n f) (j:Nat):w.cell? ⟨b,j,none⟩=none:=by
 obtain⟨D,⟨es,clock,h1,_⟩,_⟩:=h
 simp[World.cell?,h1]
theorem I9.block {w':World} (h:I9 E z w b n f) (hb:w'.heap[b]?=w.heap[b]?):I9 E z w' b n f:=by
 obtain⟨D,⟨es,clock,h1,h2,h3,h4⟩,h5⟩:=h
 exact⟨D,⟨es,clock,hb.trans h1,h2,h3,h4⟩,h5⟩
theorem I9.look {t e:TypeId} (h:I9 E z w b n f) (ht:P.underlying t=some (.map k e)) (hz:(zeroValue e).run P w=.ok z w) {a:α} (ha:E.ok a) :
  (Instr.lookup t (.map (some b)) (E.val a) false).run P w=.ok (f a) w:=by
 obtain⟨D,h,h5⟩:=h
 obtain⟨v,ps,hrun,hv⟩:=h.lookup E.law ht hz (zd:=.held z) (zp:=[]) rfl (E.reads a ha)
 rw[h5 a ha] at hv
 unfold afn at hv
 simp only[Option.some.injEq,Prod.mk.injEq,DataW.held.injEq] at hv
 rw[hrun,hv.1]
theorem I9.store {t e:TypeId} (h:I9 E z w b n f) (ht:P.underlying t=some (.map k e)) (hn:n<maxLen) {a:α} (ha:E.ok a) (v:Value) :
  ∃w' f',(Instr.mapUpdate t (.map (some b)) (E.val a) v).run P w=.ok () w'∧I9 E z w' b (n+1) f'∧f' a=v∧(∀x,x≠a->f' x=f x)∧w.grownBy w' (some b):=by
 classical
 obtain⟨D,h,h5⟩:=h
 obtain⟨w',hrun,ho,hg⟩:=h.update E.law ht hn (E.reads a ha) (val:=v) (d:=.held v) (ps:=[]) rfl
 refine⟨w',fun x=>if x=a then v else f x,hrun,⟨_,ho,fun x hx=>?_⟩,?_,fun x hx=>?_,hg⟩
 ·by_cases e:x=a
  ·show _=DataW.held (if _ then _ else _)
   rw[if_pos e,e]
   exact Maps.atKey_put_same h.isMap (E.law.key (E.reads a ha)) _ _
  ·show _=DataW.held (if _ then _ else _)
   rw[if_neg e,Maps.atKey_put_other (fun hl=>e (E.inj _ _ (E.law.inj (E.reads x hx) (show keyOf P k (E.val a)=some (E.lit x) by rw[hl];exact E.reads a ha))))]
   exact h5 x hx
 ·simp
 ·exact if_neg hx
def Ue (c:cu):Value:=.agg #[.string c.name,.bool c.on]
def amh (c:cu):Lit:=.string (keyBytes [.string c.name.data.toList,.bool c.on])
theorem aom (c:cu) (h:c.name.size<=maxLen):keyOf Tryz.prog 94 (Ue c)=some (amh c):=by
 have cC:Tryz.prog.cellsOf 94=2:=by kernel_rfl
 have cS:Tryz.prog.cellsOf 9=1:=by kernel_rfl
 have cB:Tryz.prog.cellsOf 4=1:=by kernel_rfl
 have hp:decide (0<Tryz.prog.types.size)=true:=by kernel_rfl
 obtain⟨m,hm⟩:∃m,Tryz.prog.types.size=m+1:=⟨Tryz.prog.types.size-1,by have:=of_decide_eq_true hp;omega⟩
 unfold Ue keyOf
 rw[Tryz.underlying94]
 have h1:Tryz.prog.keyType 94=true:=by kernel_rfl
 have h2:Value.formed Tryz.prog 94 (.agg #[.string c.name,.bool c.on])=true:=by
  simp[Value.formed,Tryz.underlying94,cC]
 simp only[h1,h2,Bool.and_self,if_true]
 rw[hm]
 simp[amh,Program.keyLits,Tryz.underlying94,Tryz.underlying9,Tryz.underlying4,cC,cS,cB,Value.cells,h]
theorem a1g:laidOutB Tryz.prog=true:=by kernel_rfl
theorem aon:Keyed Tryz.prog 94:=Maps.Keyed.of_law (deep_law_laid a1g (m:=3) (by decide) (of_decide_eq_true (by kernel_rfl)) (by kernel_rfl) (by rw[Tryz.underlying94]))
def amd:aod Tryz.prog 94 cu where
 val:=Ue
 lit:=amh
 ok:=fun c=>c.name.size<=maxLen
 law:=aon
 reads:=aom
 inj:=fun a b h=>by
  unfold Ue at h
  simp only[Value.agg.injEq,Array.mk.injEq,List.cons.injEq,Value.string.injEq,Value.bool.injEq,and_true] at h
  cases a;cases b
  simp only at h
  obtain⟨rfl,rfl⟩:=h
  rfl
end Go.Proofs.YtflcnhfakcgkeaaGreat
namespace Go.Proofs.YtflcnhfakcgkeaaGreat
open Go.RowKit
set_option linter.unusedSimpArgs false
set_option linter.unusedVariables false
def Wh (c:Int):Bool:=decide ((97<=c∧c<=122)∨(65<=c∧c<=90))
def F9 (c:Int):Bool:=decide (48<=c∧c<=57)
def Ph (c:Int):Bool:=Wh c||F9 c||c == 95
theorem gu {a b:Bool} (h:a=b):Ending.returned (.bool a)=.returned (.bool b):=by rw[h]
set_option maxHeartbeats 400000 in
theorem O8 (c:Int) (w:World) (h0:0<=c) (h1:c<=255) :
  Calls Tryz.prog 119 #[.int .u8 c] w fun e w'=>e=.returned (.bool (Wh c))∧w'=w:=by
 go_enter Tryz.func119,Tryz.ntmps119
 go_wp2
 all_goals
  go_ret
  refine⟨gu ?_,rfl⟩
  unfold Wh
  rw[Bool.eq_iff_iff]
  simp
  try omega
set_option maxHeartbeats 400000 in
theorem Vl (c:Int) (w:World) (h0:0<=c) (h1:c<=255) :
  Calls Tryz.prog 121 #[.int .u8 c] w fun e w'=>e=.returned (.bool (F9 c))∧w'=w:=by
 go_enter Tryz.func121,Tryz.ntmps121
 go_wp2
 all_goals
  go_ret
  refine⟨gu ?_,rfl⟩
  unfold F9
  rw[Bool.eq_iff_iff]
  simp
  try omega
set_option maxHeartbeats 400000 in
theorem Ug (c:Int) (w:World) (h0:0<=c) (h1:c<=255) :
  Calls Tryz.prog 141 #[.int .u8 c] w fun e w'=>e=.returned (.bool (Wh c))∧w'=w:=by
 go_enter Tryz.func141,Tryz.ntmps141
 go_wp2
 all_goals
  go_ret
  refine⟨gu ?_,rfl⟩
  unfold Wh
  rw[Bool.eq_iff_iff]
  simp
  try omega
set_option maxHeartbeats 400000 in
theorem aef (c:Int) (w:World) (h0:0<=c) (h1:c<=255) :
  Calls Tryz.prog 146 #[.int .u8 c] w fun e w'=>e=.returned (.bool (F9 c))∧w'=w:=by
 go_enter Tryz.func146,Tryz.ntmps146
 go_wp2
 all_goals
  go_ret
  refine⟨gu ?_,rfl⟩
  unfold F9
  rw[Bool.eq_iff_iff]
  simp
  try omega
set_option maxHeartbeats 400000 in
theorem ag3 (c:Int) (w:World) (h0:0<=c) (h1:c<=255) :
  Calls Tryz.prog 144 #[.int .u8 c] w fun e w'=>e=.returned (.bool (Ph c))∧w'=w:=by
 cases hl:Wh c<;>cases hd:F9 c
 all_goals
  go_enter Tryz.func144,Tryz.ntmps144
  go_wp2_with (first|(go_at_call 141;refine(Ug _ _ h0 h1).mono ?_;rintro e w' ⟨rfl,rfl⟩;rw[hl])|(go_at_call 146;refine(aef _ _ h0 h1).mono ?_;rintro e w' ⟨rfl,rfl⟩;rw[hd]))
  go_ret
  refine⟨gu ?_,rfl⟩
  simp[Ph,hl,hd]
def oz (s:ByteArray) (i:Nat):Int:=if h:i<s.size then (s[i].toNat:Int) else 0
theorem G7 {s:ByteArray} {i:Nat} (h:i<s.size):oz s i=(s[i].toNat:Int):=by simp[oz,h]
theorem abt (x:UInt8):0<=(x.toNat:Int)∧(x.toNat:Int)<=255:=by have:=x.toNat_lt;omega
def allB (p:Nat->Bool) (i n:Nat):Bool:=decide (∀j,j<n->i<=j->p j=true)
theorem aaz {p:Nat->Bool} {i n:Nat} (h:∀j,j<n->i<=j->p j=true):allB p i n=true:=by simpa[allB] using h
theorem aek {p:Nat->Bool} {i n k:Nat} (h1:k<n) (h2:i<=k) (h:p k=false):allB p i n=false:=by
 unfold allB
 rw[decide_eq_false_iff_not]
 intro hh
 have:=hh k h1 h2
 rw[h] at this
 cases this
def Ad (s:ByteArray):Bool:=decide (2<=s.size∧s.size<=10)&&decide (oz s 0=36)&&!decide (oz s 1=48)&&allB (fun i=>F9 (oz s i)) 1 s.size
set_option maxHeartbeats 400000 in
theorem aoo (s:ByteArray) (w:World) (hs:Len s.size) :
  Calls Tryz.prog 94 #[.string s] w fun e w'=>e=.returned (.bool (Ad s))∧w'=w:=by
 unfold Len at hs
 by_cases h1:s.size<2
 ·have e:Ad s=false:=by simp[Ad];omega
  rw[e]
  have d1:decide ((s.size:Int)<2)=true:=by simp;omega
  go_enter Tryz.func94,Tryz.ntmps94
  go_wp2
  go_ret
  exact⟨rfl,rfl⟩
 have d1:decide ((s.size:Int)<2)=false:=by simp;omega
 by_cases h2:10<s.size
 ·have e:Ad s=false:=by simp[Ad];omega
  rw[e]
  have d2:decide (10<(s.size:Int))=true:=by simp;omega
  go_enter Tryz.func94,Tryz.ntmps94
  go_wp2
  go_ret
  exact⟨rfl,rfl⟩
 have d2:decide (10<(s.size:Int))=false:=by simp;omega
 have g0:0<s.size:=by omega
 have g1:1<s.size:=by omega
 have b0:=G7 g0
 have b1:=G7 g1
 by_cases h3:(s[0].toNat:Int)=36
 case neg =>
  have e:Ad s=false:=by simp[Ad,b0,h3]
  rw[e]
  have d3:((s[0].toNat:Int) != 36)=true:=by rw[bne_iff_ne];exact h3
  clear b0 b1 e
  go_enter Tryz.func94,Tryz.ntmps94
  go_wp2
  go_ret
  exact⟨rfl,rfl⟩
 have d3:((s[0].toNat:Int) != 36)=false:=by simp[h3]
 by_cases h4:(s[1].toNat:Int)=48
 ·have e:Ad s=false:=by simp[Ad,b1,h4]
  rw[e]
  have d4:((s[1].toNat:Int) == 48)=true:=by simp[h4]
  clear b0 b1 e h3 h4
  go_enter Tryz.func94,Tryz.ntmps94
  go_wp2
  go_ret
  exact⟨rfl,rfl⟩
 have d4:((s[1].toNat:Int) == 48)=false:=by simp[h4]
 have e:Ad s=allB (fun i=>F9 (oz s i)) 1 s.size:=by
  simp only[Ad,b0,b1,h3,h4]
  simp
  intro h
  omega
 rw[e]
 clear b0 b1 e h3 h4
 go_enter Tryz.func94,Tryz.ntmps94
 go_wp2
 go_loopg [3] (s.size-1) (fun g i wr=>∃(k:Nat),k<=s.size∧1<=k∧g=s.size-k∧i=.int .i64 k∧wr=w∧∀j,j<k->1<=j->F9 (oz s j)=true)
 case atStart=>exact⟨1,by omega,Nat.le_refl _,by omega,rfl,rfl,fun j h1 h2=>by omega⟩
 case round =>
  obtain⟨k,hk,hk1,hg,rfl,rfl,hall⟩:=hrel
  have HG:=hide hg
  have HA:=hide hall
  clear hg hall
  by_cases hlt:k<s.size
  ·have hbd:=abt s[k]
   cases hd:F9 (s[k].toNat:Int)
   ·have F:allB (fun i=>F9 (oz s i)) 1 s.size=false:=aek hlt hk1 (by rw[G7 hlt];exact hd)
    have HF:=hide F
    clear F
    go_wp2_with (go_at_call 121;refine(Vl _ _ (by omega) (by omega)).mono ?_;rintro e w' ⟨rfl,rfl⟩;rw[hd])
    go_ret
    exact⟨gu (uh HF).symm,rfl⟩
   ·have A':∀j,j<k+1->1<=j->F9 (oz s j)=true:=by
     intro j h1 h2
     by_cases e:j=k
     ·subst e;rw[G7 hlt];exact hd
     ·exact uh HA j (by omega) h2
    have HA':=hide A'
    clear A'
    go_wp2_with (go_at_call 121;refine(Vl _ _ (by omega) (by omega)).mono ?_;rintro e w' ⟨rfl,rfl⟩;rw[hd])
    go_roundg (s.size-(k+1))
    case measure=>have:=uh HG;omega
    case rel=>exact⟨k+1,by omega,by omega,rfl,by go_num,rfl,uh HA'⟩
  ·have e:k=s.size:=by omega
   have T:allB (fun i=>F9 (oz s i)) 1 s.size=true:=aaz (by have:=uh HA;rw[e] at this;exact this)
   have HT:=hide T
   clear T
   go_wp2
   go_ret
   exact⟨gu (uh HT).symm,rfl⟩
def Yg:List ByteArray:=[⟨#[110,111,100,101]⟩,⟨#[114,101,116,117,114,110,115]⟩,⟨#[118,97,114]⟩,⟨#[108,101,116]⟩,⟨#[116,101,108]⟩,⟨#[105,110,116]⟩,⟨#[98,111,111,108]⟩,⟨#[119,104,101,110]⟩,⟨#[119,104,101,110,111,116]⟩,⟨#[105,102]⟩,⟨#[116,104,101,110]⟩,⟨#[101,108,115,101]⟩,⟨#[102,98,121]⟩,⟨#[109,101,114,103,101]⟩,⟨#[116,114,117,101]⟩,⟨#[102,97,108,115,101]⟩,⟨#[97,110,100]⟩,⟨#[111,114]⟩,⟨#[120,111,114]⟩,⟨#[110,111,116]⟩,⟨#[109,111,100]⟩]
def kwB (s:ByteArray):Bool:=s.toList == [110,111,100,101]||s.toList == [114,101,116,117,114,110,115]||s.toList == [118,97,114]||s.toList == [108,101,116]||s.toList == [116,101,108]||s.toList == [105,110,116]||s.toList == [98,111,111,108]||s.toList == [119,104,101,110]||s.toList == [119,104,101,110,111,116]||s.toList == [105,102]||s.toList == [116,104,101,110]||s.toList == [101,108,115,101]||s.toList == [102,98,121]||s.toList == [109,101,114,103,101]||s.toList == [116,114,117,101]||s.toList == [102,97,108,115,101]||s.toList == [97,110,100]||s.toList == [111,114]||s.toList == [120,111,114]||s.toList == [110,111,116]||s.toList == [109,111,100]
def inB (l:List ByteArray) (s:ByteArray):Bool:=l.any (fun x=>x.toList == s.toList)
theorem aqr:∀x,x∈Yg->x.size<=7:=by decide
set_option maxHeartbeats 1000000 in
theorem Zy (w:World) :
  Calls Tryz.prog 120 #[] w fun e w'=>∃v,e=.returned v∧bf 1 16 Cc w.heap.size w' v Yg∧Below w.heap.size w w':=by
 go_enter Tryz.func120,Tryz.ntmps120
 go_wp2
 go_ret
 refine⟨_,rfl,?_,(Below.refl _ _).alloc (Nat.le_refl _) _⟩
 refine⟨_,_,rfl,by simp[Len,Yg],by simp[Len,Yg],fun i hi=>⟨_,_,[.string Yg[i]],rfl,Nat.le_refl _,by simp,rfl,?_,rfl,?_⟩⟩
 ·intro j hj
  have hj0:j=0:=by simpa using hj
  subst hj0
  have hc:∀(i:Nat) (hi:i<Yg.length),(Yg.map Value.string).toArray[i]?=some (.string Yg[i]):=by
   intro i hi
   simp[hi]
  rw[World.cell?_alloc_at _ _ _ _ rfl]
  simp only[Nat.zero_add,Nat.mul_one,Nat.add_zero]
  exact hc i hi
 ·have:=aqr Yg[i] (List.getElem_mem hi)
  unfold Len
  omega
set_option maxHeartbeats 1000000 in
theorem aa0 (s:ByteArray) (w:World) :
  Calls Tryz.prog 142 #[.string s] w fun e w'=>e=.returned (.bool (kwB s))∧w'=w:=by
 go_enter Tryz.func142,Tryz.ntmps142
 go_wp2
 all_goals
  go_ret
  refine⟨gu ?_,rfl⟩
  simp_all [kwB]
set_option maxHeartbeats 400000 in
theorem abl (l:List ByteArray) (v:Value) (s:ByteArray) (w:World) (hv:bf 1 16 Cc 0 w v l) :
  Calls Tryz.prog 43 #[v,.string s] w fun e w'=>e=.returned (.bool (inB l s))∧w'=w:=by
 obtain⟨a,cap,rfl,_,hn,hx⟩:=hv
 unfold Len at hn
 have HX:=hide hx
 clear hx
 go_enter Tryz.func43,Tryz.ntmps43
 go_wp2
 go_loopg [6,9] l.length (fun g x i wr=>∃(k:Nat),k<=l.length∧g=l.length-k∧i=.int .i64 k∧wr=w∧∀j (h:j<l.length),j<k->(l[j].toList == s.toList)=false)
 case atStart=>exact⟨0,by omega,by omega,rfl,rfl,fun j _ h2=>by omega⟩
 case round =>
  obtain⟨k,hk,hg,rfl,rfl,hall⟩:=hrel
  have HG:=hide hg
  have HA:=hide hall
  clear hg hall
  by_cases hlt:k<l.length
  ·obtain⟨b,o,cs,rfl,_,hb,hcs,hc,hR⟩:=uh HX k hlt
   obtain⟨rfl,hsn⟩:=hR
   have c0:=hc 0 (by simp)
   simp only[Nat.mul_one,Nat.add_zero,List.getElem_cons_zero,List.getElem_cons_succ] at c0
   clear hc hcs
   cases he:(l[k].toList == s.toList)
   ·have A':∀j (h:j<l.length),j<k+1->(l[j].toList == s.toList)=false:=by
     intro j h h1
     by_cases e:j=k
     ·subst e;exact he
     ·exact uh HA j h (by omega)
    have HA':=hide A'
    clear A'
    go_wp2
    go_roundg (l.length-(k+1))
    case measure=>have:=uh HG;omega
    case rel=>exact⟨k+1,by omega,rfl,by go_num,rfl,uh HA'⟩
   ·have T:inB l s=true:=by
     unfold inB
     rw[List.any_eq_true]
     exact⟨l[k],List.getElem_mem hlt,he⟩
    have HT:=hide T
    clear T
    go_wp2
    go_ret
    exact⟨gu (uh HT).symm,rfl⟩
  ·have e:k=l.length:=by omega
   have T:inB l s=false:=by
    unfold inB
    rw[List.any_eq_false]
    intro x hx
    obtain⟨j,hj,rfl⟩:=List.getElem_of_mem hx
    rw[uh HA j hj (by omega)]
    decide
   have HT:=hide T
   clear T
   go_wp2
   go_ret
   exact⟨gu (uh HT).symm,rfl⟩
theorem ami (s:ByteArray):inB Yg s=kwB s:=by
 simp only[inB,Yg,kwB,List.any_cons,List.any_nil,ByteArray.toList_eq,Bool.or_false,BEq.comm (a:=s.data.toList),Bool.or_assoc]
def yt (s:ByteArray):Bool:=decide (1<=s.size∧s.size<=40)&&Wh (oz s 0)&&!kwB s&&allB (fun i=>Ph (oz s i)) 0 s.size
def Ans (v:Value) (w:World) (e:Ending) (w':World):Prop:=e=.returned v∧Below w.heap.size w w'
set_option maxHeartbeats 1000000 in
theorem ael (s:ByteArray) (w:World) (hs:Len s.size) :
  Calls Tryz.prog 93 #[.string s] w (Ans (.bool (yt s)) w):=by
 unfold Len at hs
 by_cases h1:s.size<1
 ·have e:yt s=false:=by simp[yt];omega
  rw[e]
  have d1:decide ((s.size:Int)<1)=true:=by simp;omega
  clear e
  go_enter Tryz.func93,Tryz.ntmps93
  go_wp2
  go_ret
  exact⟨rfl,Below.refl _ _⟩
 have d1:decide ((s.size:Int)<1)=false:=by simp;omega
 by_cases h2:40<s.size
 ·have e:yt s=false:=by simp[yt];omega
  rw[e]
  have d2:decide (40<(s.size:Int))=true:=by simp;omega
  clear e
  go_enter Tryz.func93,Tryz.ntmps93
  go_wp2
  go_ret
  exact⟨rfl,Below.refl _ _⟩
 have d2:decide (40<(s.size:Int))=false:=by simp;omega
 have g0:0<s.size:=by omega
 have b0:=G7 g0
 have hb0:=abt s[0]
 cases hl:Wh (s[0].toNat:Int)
 ·have e:yt s=false:=by simp[yt,b0,hl]
  rw[e]
  clear e b0
  go_enter Tryz.func93,Tryz.ntmps93
  go_wp2_with (go_at_call 119;refine(O8 _ _ (by omega) (by omega)).mono ?_;rintro e w' ⟨rfl,rfl⟩;rw[hl])
  go_ret
  exact⟨rfl,Below.refl _ _⟩
 cases hkw:kwB s
 ·have e:yt s=allB (fun i=>Ph (oz s i)) 0 s.size:=by
   have:1<=s.size∧s.size<=40:=by omega
   simp[yt,b0,hl,hkw,this]
  rw[e]
  clear e b0
  have HK:=hide hkw
  clear hkw
  go_enter Tryz.func93,Tryz.ntmps93
  go_wp2_with fail
  refine(O8 _ _ (by omega) (by omega)).mono ?_
  rintro e w' ⟨rfl,rfl⟩
  rw[hl]
  go_wp2_with fail
  refine(Zy _).mono ?_
  rintro e w1 ⟨v,rfl,hv,hbl⟩
  obtain⟨av,cv,rfl⟩:=hv.shape
  have HV:=hide hv
  clear hv
  go_wp2_with fail
  refine(abl Yg _ s _ ?_).mono ?_
  ·exact(uh HV).lower Ih (Nat.zero_le _)
  rintro e w1 ⟨rfl,rfl⟩
  rw[ami,uh HK]
  clear HV
  go_wp2
  go_loopg [3] s.size (fun g i wr=>∃(k:Nat),k<=s.size∧g=s.size-k∧i=.int .i64 k∧wr=w1∧∀j,j<k->0<=j->Ph (oz s j)=true)
  case atStart=>exact⟨0,by omega,by omega,rfl,rfl,fun j h1 h2=>by omega⟩
  case round =>
   obtain⟨k,hk,hg,rfl,rfl,hall⟩:=hrel
   have HG:=hide hg
   have HA:=hide hall
   clear hg hall
   by_cases hlt:k<s.size
   ·have hbd:=abt s[k]
    have W:Ph (oz s k)=(Wh (s[k].toNat:Int)||F9 (s[k].toNat:Int)||(s[k].toNat:Int) == 95):=by rw[G7 hlt];rfl
    cases hl:Wh (s[k].toNat:Int)<;>cases hd:F9 (s[k].toNat:Int)<;>cases hu:((s[k].toNat:Int) == 95)
    case false.false.false =>
     have hu':((s[k].toNat:Int) != 95)=true:=by rw[bne,hu];rfl
     have F:allB (fun i=>Ph (oz s i)) 0 s.size=false:=aek hlt (Nat.zero_le _) (by rw[W,hl,hd,hu];rfl)
     have HF:=hide F
     clear F W
     go_wp2_with (first|(go_at_call 119;refine(O8 _ _ (by omega) (by omega)).mono ?_;rintro e w' ⟨rfl,rfl⟩;rw[hl])|(go_at_call 121;refine(Vl _ _ (by omega) (by omega)).mono ?_;rintro e w' ⟨rfl,rfl⟩;rw[hd]))
     go_ret
     exact⟨gu (uh HF).symm,hbl⟩
    all_goals
     have hu':((s[k].toNat:Int) != 95)=!((s[k].toNat:Int) == 95):=rfl
     rw[hu] at hu'
     have A':∀j,j<k+1->0<=j->Ph (oz s j)=true:=by
      intro j h1 h2
      by_cases e:j=k
      ·subst e;rw[W,hl,hd,hu];rfl
      ·exact uh HA j (by omega) h2
     have HA':=hide A'
     clear A' W
     go_wp2_with (first|(go_at_call 119;refine(O8 _ _ (by omega) (by omega)).mono ?_;rintro e w' ⟨rfl,rfl⟩;rw[hl])|(go_at_call 121;refine(Vl _ _ (by omega) (by omega)).mono ?_;rintro e w' ⟨rfl,rfl⟩;rw[hd]))
     go_roundg (s.size-(k+1))
     case measure=>have:=uh HG;omega
     case rel=>exact⟨k+1,by omega,rfl,by go_num,rfl,uh HA'⟩
   ·have e:k=s.size:=by omega
    have T:allB (fun i=>Ph (oz s i)) 0 s.size=true:=aaz (by have:=uh HA;rw[e] at this;exact this)
    have HT:=hide T
    clear T
    go_wp2
    go_ret
    exact⟨gu (uh HT).symm,hbl⟩
 ·have e:yt s=false:=by simp[yt,hkw]
  rw[e]
  clear e b0
  have HK:=hide hkw
  clear hkw
  go_enter Tryz.func93,Tryz.ntmps93
  go_wp2_with fail
  refine(O8 _ _ (by omega) (by omega)).mono ?_
  rintro e w' ⟨rfl,rfl⟩
  rw[hl]
  go_wp2_with fail
  refine(Zy _).mono ?_
  rintro e w1 ⟨v,rfl,hv,hbl⟩
  obtain⟨av,cv,rfl⟩:=hv.shape
  have HV:=hide hv
  clear hv
  go_wp2_with fail
  refine(abl Yg _ s _ ?_).mono ?_
  ·exact(uh HV).lower Ih (Nat.zero_le _)
  rintro e w1 ⟨rfl,rfl⟩
  rw[ami,uh HK]
  go_wp2
  go_ret
  exact⟨rfl,hbl⟩
def nameB (s:ByteArray):Bool:=yt s||Ad s
set_option maxHeartbeats 1000000 in
theorem Ah (s:ByteArray) (w:World) (hs:Len s.size) :
  Calls Tryz.prog 63 #[.string s] w (Ans (.bool (nameB s)) w):=by
 cases hp:yt s
 ·have e:nameB s=Ad s:=by simp[nameB,hp]
  rw[e]
  clear e
  go_enter Tryz.func63,Tryz.ntmps63
  go_wp2_with fail
  refine(ael s _ hs).mono ?_
  rintro e w1 ⟨rfl,hb⟩
  rw[hp]
  go_wp2_with fail
  refine(aoo s _ hs).mono ?_
  rintro e w' ⟨rfl,rfl⟩
  go_wp2
  go_ret
  exact⟨rfl,hb⟩
 ·have e:nameB s=true:=by simp[nameB,hp]
  rw[e]
  clear e
  go_enter Tryz.func63,Tryz.ntmps63
  go_wp2_with fail
  refine(ael s _ hs).mono ?_
  rintro e w1 ⟨rfl,hb⟩
  rw[hp]
  go_wp2
  go_ret
  exact⟨rfl,hb⟩
theorem agf (t:Int) (w:World):Calls Tryz.prog 128 #[.int .i64 t] w (fun e w'=>e=.returned (.bool (decide (t=1∨t=2)))∧w'=w):=by
 by_cases h1:t=1
 ·subst h1
  go_enter Tryz.func128,Tryz.ntmps128
  go_wp2
  go_ret
  exact⟨rfl,rfl⟩
 ·by_cases h2:t=2
  ·subst h2
   go_enter Tryz.func128,Tryz.ntmps128
   go_wp2
   go_ret
   exact⟨rfl,rfl⟩
  ·rw[decide_eq_false (fun h=>by rcases h with h|h;exact h1 h;exact h2 h)]
   have b1:(t == 1)=false:=by rw[beq_eq_false_iff_ne];exact h1
   have b2:(t == 2)=false:=by rw[beq_eq_false_iff_ne];exact h2
   go_enter Tryz.func128,Tryz.ntmps128
   go_wp2
   go_ret
   exact⟨rfl,rfl⟩
end Go.Proofs.YtflcnhfakcgkeaaGreat
