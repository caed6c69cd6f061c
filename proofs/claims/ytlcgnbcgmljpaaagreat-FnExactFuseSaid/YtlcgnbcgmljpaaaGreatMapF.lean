import Derived.Test.YtlcgnbcgmljpaaaGreatData
import Derived.Maps.OwnSet
import Derived.Test.YtlcgnbcgmljpaaaGreatM2
import Derived.Test.YtlcgnbcgmljpaaaGreatEvery
import Derived.BigRegion
import Derived.Deep.QuietTactic
import Derived.BigQuiet
namespace Go.Proofs.YtlcgnbcgmljpaaaGreat
open Go.RowKit
open Go.Maps (Keyed IsMap)
set_option linter.unusedVariables false
def af9 (v:Value):Option (DataW Value × List MemPlace):=some (.held v,[])
variable {P:Program} {k:TypeId} {z:Value} {w:World} {b n:Nat} {f:ByteArray->Value}
theorem bytes_eq {s x:ByteArray} (h:s.data.toList=x.data.toList):s=x:=by
 cases s;cases x
 simp only[ByteArray.mk.injEq]
 exact Array.toList_inj.1 h
end Go.Proofs.YtlcgnbcgmljpaaaGreat
namespace Go.Proofs.YtlcgnbcgmljpaaaGreat
open Go.RowKit
open Go.Maps (Keyed IsMap)
set_option linter.unusedVariables false
def aap (s:ByteArray):Lit:=.string s.data.toList
def Bv (P:Program) (k:TypeId) (w:World) (b n:Nat) (f:ByteArray->Option Value):Prop :=
 ∃D,w.ownsMap P k af9 b n D∧Maps.size D=n∧(∀s v,f s=some v->∀z,D.atKey (aap s) z=.held v)∧(∀s,f s=none->∀z,D.atKey (aap s) z=z)
variable {P:Program} {k:TypeId} {w:World} {b n:Nat} {f:ByteArray->Option Value}
theorem Bv.made (w:World):Bv P k (w.alloc (.map #[] 0)) w.heap.size 0 (fun _=>none) :=
 ⟨.map [],World.ownsMap_made w P k af9,rfl,fun s v h=>by (cases h),fun s _ z=>rfl⟩
theorem Bv.lt (h:Bv P k w b n f):b<w.heap.size:=by
 obtain⟨D,h,_⟩:=h
 exact h.lt
theorem Bv.a0w (h:Bv P k w b n f) (j:Nat):w.cell? ⟨b,j,none⟩=none:=by
 obtain⟨D,⟨es,clock,h1,_⟩,_⟩:=h
 simp[World.cell?,h1]
theorem Bv.block {w':World} (h:Bv P k w b n f) (hb:w'.heap[b]?=w.heap[b]?):Bv P k w' b n f:=by
 obtain⟨D,⟨es,clock,h1,h2,h3,h4⟩,h5⟩:=h
 exact⟨D,⟨es,clock,hb.trans h1,h2,h3,h4⟩,h5⟩
theorem Bv.below {B:Nat} {w':World} (h:Bv P k w b n f) (hb:Below B w w') (hB:b<B):Bv P k w' b n f:=h.block (hb.block b hB)
theorem Bv.len {t e:TypeId} (h:Bv P k w b n f) (ht:P.underlying t=some (.map k e)) (ty:TypeId):(Builtin.len_ #[t] ty #[.map (some b)]).run P w=.ok (.int .i64 (n:Int)) w:=by
 obtain⟨D,h,hs,_⟩:=h
 have:=h.len ht ty
 rwa[hs] at this
theorem Bv.hit {t e:TypeId} (h:Bv P k w b n f) (hk:P.underlying k=some .string) (ht:P.underlying t=some (.map k e)) {z:Value} (hz:(zeroValue e).run P w=.ok z w) {s:ByteArray} (hs:s.size<=maxLen) {v:Value} (hv:f s=some v) :
  (Instr.lookup t (.map (some b)) (.string s) true).run P w=.ok (.tuple #[v,.bool true]) w:=by
 obtain⟨D,h,_,h4,h5⟩:=h
 obtain⟨v',ps,hrun,hv'⟩:=h.look_ok (Maps.string_keyed hk) ht hz (zd:=.held z) (zp:=[]) rfl (WideMaps.keyOf_string_mk hk hs)
 have e1:=h4 s v hv
 unfold aap at e1
 rw[e1] at hv'
 unfold af9 at hv'
 simp only[Option.some.injEq,Prod.mk.injEq,DataW.held.injEq] at hv'
 rw[hrun,Maps.has_true_of_atKey e1,hv'.1]
theorem Bv.miss {t e:TypeId} (h:Bv P k w b n f) (hk:P.underlying k=some .string) (ht:P.underlying t=some (.map k e)) {z:Value} (hz:(zeroValue e).run P w=.ok z w) {s:ByteArray} (hs:s.size<=maxLen) (hv:f s=none) :
  (Instr.lookup t (.map (some b)) (.string s) true).run P w=.ok (.tuple #[z,.bool false]) w:=by
 obtain⟨D,h,_,h4,h5⟩:=h
 obtain⟨v',ps,hrun,hv'⟩:=h.look_ok (Maps.string_keyed hk) ht hz (zd:=.held z) (zp:=[]) rfl (WideMaps.keyOf_string_mk hk hs)
 have e1:=h5 s hv
 unfold aap at e1
 rw[e1] at hv'
 unfold af9 at hv'
 simp only[Option.some.injEq,Prod.mk.injEq,DataW.held.injEq] at hv'
 rw[hrun,Maps.has_false_of_atKey e1,hv'.1]
theorem Bv.look {t e:TypeId} (h:Bv P k w b n f) (hk:P.underlying k=some .string) (ht:P.underlying t=some (.map k e)) {z:Value} (hz:(zeroValue e).run P w=.ok z w) {s:ByteArray} (hs:s.size<=maxLen) :
  (Instr.lookup t (.map (some b)) (.string s) false).run P w=.ok ((f s).getD z) w:=by
 obtain⟨D,h,_,h4,h5⟩:=h
 obtain⟨v',ps,hrun,hv'⟩:=h.lookup (Maps.string_keyed hk) ht hz (zd:=.held z) (zp:=[]) rfl (WideMaps.keyOf_string_mk hk hs)
 cases hf:f s with
 | none =>
  have e1:=h5 s hf
  unfold aap at e1
  rw[e1] at hv'
  unfold af9 at hv'
  simp only[Option.some.injEq,Prod.mk.injEq,DataW.held.injEq] at hv'
  rw[hrun,hv'.1]
  rfl
 | some v =>
  have e1:=h4 s v hf
  unfold aap at e1
  rw[e1] at hv'
  unfold af9 at hv'
  simp only[Option.some.injEq,Prod.mk.injEq,DataW.held.injEq] at hv'
  rw[hrun,hv'.1]
  rfl
theorem akg {H:Type} {D:DataW H} {kl:Lit} (hD:IsMap D) (h:Maps.has D kl=false) (d:DataW H):Maps.size (D.put kl d)=Maps.size D+1:=by
 obtain⟨es,rfl⟩:=hD
 rw[DataW.put_eq]
 show (ChangeMaps.putKey kl d es).length=es.length+1
 unfold ChangeMaps.putKey
 rw[DataW.length_insert]
 have:es.filter (ChangeMaps.notKey kl)=es:=by
  rw[List.filter_eq_self]
  intro p hp
  rw[Maps.has_eq] at h
  have:=List.any_eq_false.1 h p hp
  unfold ChangeMaps.notKey
  simpa using this
 rw[this]
theorem Bv.store {t e:TypeId} (h:Bv P k w b n f) (hk:P.underlying k=some .string) (ht:P.underlying t=some (.map k e)) (hn:n<maxLen) {s:ByteArray} (hs:s.size<=maxLen) (hf:f s=none) (v:Value) :
  ∃w',(Instr.mapUpdate t (.map (some b)) (.string s) v).run P w=.ok () w'∧(∀g:ByteArray->Option Value,g s=some v->(∀x,x≠s->g x=f x)->Bv P k w' b (n+1) g)∧w.grownBy w' (some b):=by
 obtain⟨D,h,hsz,h4,h5⟩:=h
 obtain⟨w',hrun,ho,hg⟩:=h.update (Maps.string_keyed hk) ht hn (WideMaps.keyOf_string_mk hk hs) (val:=v) (d:=.held v) (ps:=[]) rfl
 have hkey:=(Maps.string_keyed hk).key (WideMaps.keyOf_string_mk hk hs)
 have hne:∀x:ByteArray,x≠s->aap x≠.string s.data.toList:=fun x hx e=>by
  unfold aap at e
  simp only[Lit.string.injEq] at e
  exact hx (bytes_eq e)
 refine⟨w',hrun,fun g hgs hgo=>⟨_,ho,by have e9:=akg h.isMap (Maps.has_false_of_atKey (h5 s hf)) (.held v);unfold aap at e9;rw[e9,hsz],fun x u hx z=>?_,fun x hx z=>?_⟩,hg⟩
 ·by_cases e:x=s
  ·subst e
   rw[hgs] at hx
   simp only[Option.some.injEq] at hx
   subst hx
   exact Maps.atKey_put_same h.isMap hkey _ _
  ·rw[Maps.atKey_put_other (hne x e)]
   rw[hgo x e] at hx
   exact h4 x u hx z
 ·have e:x≠s:=fun e=>by
   subst e
   rw[hgs] at hx
   cases hx
  rw[Maps.atKey_put_other (hne x e)]
  rw[hgo x e] at hx
  exact h5 x hx z
end Go.Proofs.YtlcgnbcgmljpaaaGreat
namespace Go.Proofs.YtlcgnbcgmljpaaaGreat
open Go.RowKit
set_option linter.unusedSimpArgs false
set_option linter.unusedVariables false
theorem bf.Fz {α:Type} {sz jh lo:Nat} {R:Nat->World->List Value->α->Prop} {w:World} {v:Value} {xs:List α} (h:bf sz jh R lo w v xs):xs.length<=140737488355328:=by
 obtain⟨_,_,_,_,h,_⟩:=h
 exact h
def aha (cs:List Value):Value:=.agg cs.toArray
def akh (cs:List Value):Value:=cs.headD (.bool false)
set_option maxHeartbeats 1000000 in
theorem aon (pb:Nat) (I:Nat->World->Prop) (J:World->Prop) (q:Nat->Bool) (xs:List gy) (v:Value) (w:World) (hS:∀k wr,I k wr->bf 2 24 xk 0 wr v xs) (hI:∀k w1 w2,I k w1->Below w1.heap.size w1 w2->I k w2)
  (hf:∀k (hk:k<xs.length) cs wr,I k wr->xk 0 wr cs xs[k]->Calls Tryz.prog 106 #[.pointer (some ⟨pb,0,none⟩),aha cs] wr fun e w'=>e=.returned (.bool (q k))∧(q k=true->I (k+1) w')∧(q k=false->J w')) (h0:I 0 w) :
  Calls Tryz.prog 105 #[v,.func (.func 106) #[.pointer (some ⟨pb,0,none⟩)] #[]] w fun e w'=>e=.returned (.bool ((List.range xs.length).all q))∧((List.range xs.length).all q=true->I xs.length w')∧((List.range xs.length).all q=false->J w'):=by
 obtain⟨a,cap,rfl⟩:=(hS 0 w h0).shape
 have hn:=(hS 0 w h0).Fz
 have HS:=hide hS
 have HI:=hide hI
 have Ql:=hide hf
 have H0:=hide h0
 clear hS hI hf h0
 go_enter Tryz.func105,Tryz.ntmps105
 go_wp2
 go_loopg [6,9] xs.length (fun g x i wr=>∃(k:Nat),k<=xs.length∧g=xs.length-k∧i=.int .i64 k∧I k wr∧∀j,j<k->q j=true)
 case atStart=>exact⟨0,Nat.zero_le _,by omega,rfl,uh H0,fun j h=>absurd h (Nat.not_lt_zero _)⟩
 case round =>
  obtain⟨k,hk,hg,rfl,hbl,hall⟩:=hrel
  have HG:=hide hg
  have HA:=hide hall
  have qx:=hide hbl
  clear hg hall hbl
  by_cases hlt:k<xs.length
  ·obtain⟨_,_,yx,_,_,Em⟩:=uh HS k wr (uh qx)
   simp only[Value.slice.injEq] at yx
   obtain⟨rfl,_,rfl⟩:=yx
   obtain⟨b,o,cs,rfl,_,hb,hcs,hc,hR⟩:=Em k hlt
   clear Em
   have hcall:=fun ob=>uh Ql k hlt cs (wr.alloc ob) (uh HI k wr _ (uh qx) ((Below.refl _ _).alloc (Nat.le_refl _) ob)) (jq.stays _ _ _ _ _ ((Below.refl _ _).alloc (Nat.le_refl _) ob) hR)
   obtain⟨rfl,hsn,ht⟩:=hR
   have c0:=hc 0 (by simp)
   have c1:=hc 1 (by simp)
   simp only[Nat.mul_one,Nat.add_zero,List.getElem_cons_zero,List.getElem_cons_succ] at c0 c1
   simp only[aha,List.headD_cons] at hcall
   have HC:=hide hcall
   clear hc hcs hcall
   cases hp:q k
   ·have HF:Hid ((List.range xs.length).all q=false):=by
     refine hide ?_
     rw[List.all_eq_false]
     exact⟨k,List.mem_range.2 hlt,by rw[hp];decide⟩
    go_wp2_with fail
    refine(uh HC _).mono ?_
    rintro e w1 ⟨rfl,-,hb1⟩
    have HB1:=hide (hb1 hp)
    rw[hp]
    clear hb1
    go_wp2
    go_ret
    exact⟨oq (uh HF).symm,fun h=>absurd h (by rw[uh HF];decide),fun _=>uh HB1⟩
   ·have A':∀j,j<k+1->q j=true:=by
     intro j h1
     by_cases e:j=k
     ·subst e;exact hp
     ·exact uh HA j (by omega)
    have HA':=hide A'
    clear A'
    go_wp2_with fail
    refine(uh HC _).mono ?_
    rintro e w1 ⟨rfl,hb1,-⟩
    have HB1:=hide (hb1 hp)
    rw[hp]
    clear hb1
    go_wp2
    go_roundg (xs.length-(k+1))
    case measure=>have:=uh HG;omega
    case rel=>exact⟨k+1,by omega,rfl,by go_num,uh HB1,uh HA'⟩
  ·have e:k=xs.length:=by omega
   have HT:Hid ((List.range xs.length).all q=true):=by
    refine hide ?_
    rw[List.all_eq_true]
    intro x hx
    exact uh HA x (by have:=List.mem_range.1 hx;omega)
   have HE:=hide (e▸uh qx)
   go_wp2
   go_ret
   exact⟨oq (uh HT).symm,fun _=>uh HE,fun h=>absurd h (by rw[uh HT];decide)⟩
set_option maxHeartbeats 1000000 in
theorem aoo (pb:Nat) (I:Nat->World->Prop) (J:World->Prop) (q:Nat->Bool) (xs:List ByteArray) (v:Value) (w:World) (hS:∀k wr,I k wr->bf 1 16 uz 0 wr v xs) (hI:∀k w1 w2,I k w1->Below w1.heap.size w1 w2->I k w2)
  (hf:∀k (hk:k<xs.length) cs wr,I k wr->uz 0 wr cs xs[k]->Calls Tryz.prog 108 #[.pointer (some ⟨pb,0,none⟩),ah5 cs] wr fun e w'=>e=.returned (.bool (q k))∧(q k=true->I (k+1) w')∧(q k=false->J w')) (h0:I 0 w) :
  Calls Tryz.prog 107 #[v,.func (.func 108) #[.pointer (some ⟨pb,0,none⟩)] #[]] w fun e w'=>e=.returned (.bool ((List.range xs.length).all q))∧((List.range xs.length).all q=true->I xs.length w')∧((List.range xs.length).all q=false->J w'):=by
 obtain⟨a,cap,rfl⟩:=(hS 0 w h0).shape
 have hn:=(hS 0 w h0).Fz
 have HS:=hide hS
 have HI:=hide hI
 have Ql:=hide hf
 have H0:=hide h0
 clear hS hI hf h0
 go_enter Tryz.func107,Tryz.ntmps107
 go_wp2
 go_loopg [6,9] xs.length (fun g x i wr=>∃(k:Nat),k<=xs.length∧g=xs.length-k∧i=.int .i64 k∧I k wr∧∀j,j<k->q j=true)
 case atStart=>exact⟨0,Nat.zero_le _,by omega,rfl,uh H0,fun j h=>absurd h (Nat.not_lt_zero _)⟩
 case round =>
  obtain⟨k,hk,hg,rfl,hbl,hall⟩:=hrel
  have HG:=hide hg
  have HA:=hide hall
  have qx:=hide hbl
  clear hg hall hbl
  by_cases hlt:k<xs.length
  ·obtain⟨_,_,yx,_,_,Em⟩:=uh HS k wr (uh qx)
   simp only[Value.slice.injEq] at yx
   obtain⟨rfl,_,rfl⟩:=yx
   obtain⟨b,o,cs,rfl,_,hb,hcs,hc,hR⟩:=Em k hlt
   clear Em
   have hcall:=uh Ql k hlt cs wr (uh qx) hR
   obtain⟨rfl,hsn⟩:=hR
   have c0:=hc 0 (by simp)
   simp only[Nat.mul_one,Nat.add_zero,List.getElem_cons_zero,List.getElem_cons_succ] at c0
   simp only[ah5,List.headD_cons] at hcall
   have HC:=hide hcall
   clear hc hcs hcall
   cases hp:q k
   ·have HF:Hid ((List.range xs.length).all q=false):=by
     refine hide ?_
     rw[List.all_eq_false]
     exact⟨k,List.mem_range.2 hlt,by rw[hp];decide⟩
    go_wp2_with fail
    refine(uh HC).mono ?_
    rintro e w1 ⟨rfl,-,hb1⟩
    have HB1:=hide (hb1 hp)
    rw[hp]
    clear hb1
    go_wp2
    go_ret
    exact⟨oq (uh HF).symm,fun h=>absurd h (by rw[uh HF];decide),fun _=>uh HB1⟩
   ·have A':∀j,j<k+1->q j=true:=by
     intro j h1
     by_cases e:j=k
     ·subst e;exact hp
     ·exact uh HA j (by omega)
    have HA':=hide A'
    clear A'
    go_wp2_with fail
    refine(uh HC).mono ?_
    rintro e w1 ⟨rfl,hb1,-⟩
    have HB1:=hide (hb1 hp)
    rw[hp]
    clear hb1
    go_wp2
    go_roundg (xs.length-(k+1))
    case measure=>have:=uh HG;omega
    case rel=>exact⟨k+1,by omega,rfl,by go_num,uh HB1,uh HA'⟩
  ·have e:k=xs.length:=by omega
   have HT:Hid ((List.range xs.length).all q=true):=by
    refine hide ?_
    rw[List.all_eq_true]
    intro x hx
    exact uh HA x (by have:=List.mem_range.1 hx;omega)
   have HE:=hide (e▸uh qx)
   go_wp2
   go_ret
   exact⟨oq (uh HT).symm,fun _=>uh HE,fun h=>absurd h (by rw[uh HT];decide)⟩
set_option maxHeartbeats 1000000 in
theorem ao3 (pb:Nat) (I:Nat->World->Prop) (J:World->Prop) (q:Nat->Bool) (xs:List iw) (v:Value) (w:World) (hS:∀k wr,I k wr->bf 3 32 tu 0 wr v xs) (hI:∀k w1 w2,I k w1->Below w1.heap.size w1 w2->I k w2)
  (hf:∀k (hk:k<xs.length) cs wr,I k wr->tu 0 wr cs xs[k]->Calls Tryz.prog 148 #[.pointer (some ⟨pb,0,none⟩),agk cs] wr fun e w'=>e=.returned (.bool (q k))∧(q k=true->I (k+1) w')∧(q k=false->J w')) (h0:I 0 w) :
  Calls Tryz.prog 147 #[v,.func (.func 148) #[.pointer (some ⟨pb,0,none⟩)] #[]] w fun e w'=>e=.returned (.bool ((List.range xs.length).all q))∧((List.range xs.length).all q=true->I xs.length w')∧((List.range xs.length).all q=false->J w'):=by
 obtain⟨a,cap,rfl⟩:=(hS 0 w h0).shape
 have hn:=(hS 0 w h0).Fz
 have HS:=hide hS
 have HI:=hide hI
 have Ql:=hide hf
 have H0:=hide h0
 clear hS hI hf h0
 go_enter Tryz.func147,Tryz.ntmps147
 go_wp2
 go_loopg [6,9] xs.length (fun g x i wr=>∃(k:Nat),k<=xs.length∧g=xs.length-k∧i=.int .i64 k∧I k wr∧∀j,j<k->q j=true)
 case atStart=>exact⟨0,Nat.zero_le _,by omega,rfl,uh H0,fun j h=>absurd h (Nat.not_lt_zero _)⟩
 case round =>
  obtain⟨k,hk,hg,rfl,hbl,hall⟩:=hrel
  have HG:=hide hg
  have HA:=hide hall
  have qx:=hide hbl
  clear hg hall hbl
  by_cases hlt:k<xs.length
  ·obtain⟨_,_,yx,_,_,Em⟩:=uh HS k wr (uh qx)
   simp only[Value.slice.injEq] at yx
   obtain⟨rfl,_,rfl⟩:=yx
   obtain⟨b,o,cs,rfl,_,hb,hcs,hc,hR⟩:=Em k hlt
   clear Em
   have hcall:=fun ob=>uh Ql k hlt cs (wr.alloc ob) (uh HI k wr _ (uh qx) ((Below.refl _ _).alloc (Nat.le_refl _) ob)) (og.stays _ _ _ _ _ ((Below.refl _ _).alloc (Nat.le_refl _) ob) hR)
   obtain⟨rfl,hsn,ho,hv⟩:=hR
   have c0:=hc 0 (by simp)
   have c1:=hc 1 (by simp)
   have c2:=hc 2 (by simp)
   simp only[Nat.mul_one,Nat.add_zero,List.getElem_cons_zero,List.getElem_cons_succ] at c0 c1 c2
   simp only[agk,List.headD_cons] at hcall
   have HC:=hide hcall
   clear hc hcs hcall
   cases hp:q k
   ·have HF:Hid ((List.range xs.length).all q=false):=by
     refine hide ?_
     rw[List.all_eq_false]
     exact⟨k,List.mem_range.2 hlt,by rw[hp];decide⟩
    go_wp2_with fail
    refine(uh HC _).mono ?_
    rintro e w1 ⟨rfl,-,hb1⟩
    have HB1:=hide (hb1 hp)
    rw[hp]
    clear hb1
    go_wp2
    go_ret
    exact⟨oq (uh HF).symm,fun h=>absurd h (by rw[uh HF];decide),fun _=>uh HB1⟩
   ·have A':∀j,j<k+1->q j=true:=by
     intro j h1
     by_cases e:j=k
     ·subst e;exact hp
     ·exact uh HA j (by omega)
    have HA':=hide A'
    clear A'
    go_wp2_with fail
    refine(uh HC _).mono ?_
    rintro e w1 ⟨rfl,hb1,-⟩
    have HB1:=hide (hb1 hp)
    rw[hp]
    clear hb1
    go_wp2
    go_roundg (xs.length-(k+1))
    case measure=>have:=uh HG;omega
    case rel=>exact⟨k+1,by omega,rfl,by go_num,uh HB1,uh HA'⟩
  ·have e:k=xs.length:=by omega
   have HT:Hid ((List.range xs.length).all q=true):=by
    refine hide ?_
    rw[List.all_eq_true]
    intro x hx
    exact uh HA x (by have:=List.mem_range.1 hx;omega)
   have HE:=hide (e▸uh qx)
   go_wp2
   go_ret
   exact⟨oq (uh HT).symm,fun _=>uh HE,fun h=>absurd h (by rw[uh HT];decide)⟩
set_option maxHeartbeats 1000000 in
theorem aov (pb:Nat) (I:Nat->World->Prop) (J:World->Prop) (q:Nat->Bool) (xs:List (List iw)) (v:Value) (w:World) (hS:∀k wr,I k wr->bf 1 24 vw 0 wr v xs) (hI:∀k w1 w2,I k w1->Below w1.heap.size w1 w2->I k w2)
  (hf:∀k (hk:k<xs.length) cs wr,I k wr->vw 0 wr cs xs[k]->Calls Tryz.prog 144 #[.pointer (some ⟨pb,0,none⟩),ad8 cs] wr fun e w'=>e=.returned (.bool (q k))∧(q k=true->I (k+1) w')∧(q k=false->J w')) (h0:I 0 w) :
  Calls Tryz.prog 145 #[v,.func (.func 144) #[.pointer (some ⟨pb,0,none⟩)] #[]] w fun e w'=>e=.returned (.bool ((List.range xs.length).all q))∧((List.range xs.length).all q=true->I xs.length w')∧((List.range xs.length).all q=false->J w'):=by
 obtain⟨a,cap,rfl⟩:=(hS 0 w h0).shape
 have hn:=(hS 0 w h0).Fz
 have HS:=hide hS
 have HI:=hide hI
 have Ql:=hide hf
 have H0:=hide h0
 clear hS hI hf h0
 go_enter Tryz.func145,Tryz.ntmps145
 go_wp2
 go_loopg [6,9] xs.length (fun g x i wr=>∃(k:Nat),k<=xs.length∧g=xs.length-k∧i=.int .i64 k∧I k wr∧∀j,j<k->q j=true)
 case atStart=>exact⟨0,Nat.zero_le _,by omega,rfl,uh H0,fun j h=>absurd h (Nat.not_lt_zero _)⟩
 case round =>
  obtain⟨k,hk,hg,rfl,hbl,hall⟩:=hrel
  have HG:=hide hg
  have HA:=hide hall
  have qx:=hide hbl
  clear hg hall hbl
  by_cases hlt:k<xs.length
  ·obtain⟨_,_,yx,_,_,Em⟩:=uh HS k wr (uh qx)
   simp only[Value.slice.injEq] at yx
   obtain⟨rfl,_,rfl⟩:=yx
   obtain⟨b,o,cs,rfl,_,hb,hcs,hc,hR⟩:=Em k hlt
   clear Em
   have hcall:=uh Ql k hlt cs wr (uh qx) hR
   obtain⟨vl,rfl,hcl⟩:=hR
   obtain⟨aa1,ca1,rfl⟩:=hcl.shape
   clear hcl
   have c0:=hc 0 (by simp)
   simp only[Nat.mul_one,Nat.add_zero,List.getElem_cons_zero,List.getElem_cons_succ] at c0
   simp only[ad8,List.headD_cons] at hcall
   have HC:=hide hcall
   clear hc hcs hcall
   cases hp:q k
   ·have HF:Hid ((List.range xs.length).all q=false):=by
     refine hide ?_
     rw[List.all_eq_false]
     exact⟨k,List.mem_range.2 hlt,by rw[hp];decide⟩
    go_wp2_with fail
    refine(uh HC).mono ?_
    rintro e w1 ⟨rfl,-,hb1⟩
    have HB1:=hide (hb1 hp)
    rw[hp]
    clear hb1
    go_wp2
    go_ret
    exact⟨oq (uh HF).symm,fun h=>absurd h (by rw[uh HF];decide),fun _=>uh HB1⟩
   ·have A':∀j,j<k+1->q j=true:=by
     intro j h1
     by_cases e:j=k
     ·subst e;exact hp
     ·exact uh HA j (by omega)
    have HA':=hide A'
    clear A'
    go_wp2_with fail
    refine(uh HC).mono ?_
    rintro e w1 ⟨rfl,hb1,-⟩
    have HB1:=hide (hb1 hp)
    rw[hp]
    clear hb1
    go_wp2
    go_roundg (xs.length-(k+1))
    case measure=>have:=uh HG;omega
    case rel=>exact⟨k+1,by omega,rfl,by go_num,uh HB1,uh HA'⟩
  ·have e:k=xs.length:=by omega
   have HT:Hid ((List.range xs.length).all q=true):=by
    refine hide ?_
    rw[List.all_eq_true]
    intro x hx
    exact uh HA x (by have:=List.mem_range.1 hx;omega)
   have HE:=hide (e▸uh qx)
   go_wp2
   go_ret
   exact⟨oq (uh HT).symm,fun _=>uh HE,fun h=>absurd h (by rw[uh HT];decide)⟩
set_option maxHeartbeats 1000000 in
theorem aq1  (I:Nat->World->Prop) (J:World->Prop) (q:Nat->Bool) (xs:List Int) (v:Value) (w:World) (hS:∀k wr,I k wr->bf 1 8 yu 0 wr v xs) (hI:∀k w1 w2,I k w1->Below w1.heap.size w1 w2->I k w2)
  (hf:∀k (hk:k<xs.length) cs wr,I k wr->yu 0 wr cs xs[k]->Calls Tryz.prog 110 #[akh cs] wr fun e w'=>e=.returned (.bool (q k))∧(q k=true->I (k+1) w')∧(q k=false->J w')) (h0:I 0 w) :
  Calls Tryz.prog 109 #[v,.func (.func 110) #[] #[]] w fun e w'=>e=.returned (.bool ((List.range xs.length).all q))∧((List.range xs.length).all q=true->I xs.length w')∧((List.range xs.length).all q=false->J w'):=by
 obtain⟨a,cap,rfl⟩:=(hS 0 w h0).shape
 have hn:=(hS 0 w h0).Fz
 have HS:=hide hS
 have HI:=hide hI
 have Ql:=hide hf
 have H0:=hide h0
 clear hS hI hf h0
 go_enter Tryz.func109,Tryz.ntmps109
 go_wp2
 go_loopg [6,9] xs.length (fun g x i wr=>∃(k:Nat),k<=xs.length∧g=xs.length-k∧i=.int .i64 k∧I k wr∧∀j,j<k->q j=true)
 case atStart=>exact⟨0,Nat.zero_le _,by omega,rfl,uh H0,fun j h=>absurd h (Nat.not_lt_zero _)⟩
 case round =>
  obtain⟨k,hk,hg,rfl,hbl,hall⟩:=hrel
  have HG:=hide hg
  have HA:=hide hall
  have qx:=hide hbl
  clear hg hall hbl
  by_cases hlt:k<xs.length
  ·obtain⟨_,_,yx,_,_,Em⟩:=uh HS k wr (uh qx)
   simp only[Value.slice.injEq] at yx
   obtain⟨rfl,_,rfl⟩:=yx
   obtain⟨b,o,cs,rfl,_,hb,hcs,hc,hR⟩:=Em k hlt
   clear Em
   have hcall:=uh Ql k hlt cs wr (uh qx) hR
   obtain⟨rfl,hv⟩:=hR
   have c0:=hc 0 (by simp)
   simp only[Nat.mul_one,Nat.add_zero,List.getElem_cons_zero,List.getElem_cons_succ] at c0
   simp only[akh,List.headD_cons] at hcall
   have HC:=hide hcall
   clear hc hcs hcall
   cases hp:q k
   ·have HF:Hid ((List.range xs.length).all q=false):=by
     refine hide ?_
     rw[List.all_eq_false]
     exact⟨k,List.mem_range.2 hlt,by rw[hp];decide⟩
    go_wp2_with fail
    refine(uh HC).mono ?_
    rintro e w1 ⟨rfl,-,hb1⟩
    have HB1:=hide (hb1 hp)
    rw[hp]
    clear hb1
    go_wp2
    go_ret
    exact⟨oq (uh HF).symm,fun h=>absurd h (by rw[uh HF];decide),fun _=>uh HB1⟩
   ·have A':∀j,j<k+1->q j=true:=by
     intro j h1
     by_cases e:j=k
     ·subst e;exact hp
     ·exact uh HA j (by omega)
    have HA':=hide A'
    clear A'
    go_wp2_with fail
    refine(uh HC).mono ?_
    rintro e w1 ⟨rfl,hb1,-⟩
    have HB1:=hide (hb1 hp)
    rw[hp]
    clear hb1
    go_wp2
    go_roundg (xs.length-(k+1))
    case measure=>have:=uh HG;omega
    case rel=>exact⟨k+1,by omega,rfl,by go_num,uh HB1,uh HA'⟩
  ·have e:k=xs.length:=by omega
   have HT:Hid ((List.range xs.length).all q=true):=by
    refine hide ?_
    rw[List.all_eq_true]
    intro x hx
    exact uh HA x (by have:=List.mem_range.1 hx;omega)
   have HE:=hide (e▸uh qx)
   go_wp2
   go_ret
   exact⟨oq (uh HT).symm,fun _=>uh HE,fun h=>absurd h (by rw[uh HT];decide)⟩
def H9 (v:Int):Bool:=decide (-2147483648<=v∧v<=2147483647)
theorem aop (v:Int) (w:World):Calls Tryz.prog 110 #[.int .i64 v] w (fun e w'=>e=.returned (.bool (H9 v))∧w'=w):=by
 by_cases h1 : -2147483648<=v
 ·by_cases h2:v<=2147483647
  ·have e:H9 v=true:=by simp[H9];omega
   rw[e]
   go_enter Tryz.func110,Tryz.ntmps110
   go_wp2
   go_ret
   exact⟨rfl,rfl⟩
  ·have e:H9 v=false:=by simp[H9];omega
   rw[e]
   go_enter Tryz.func110,Tryz.ntmps110
   go_wp2
   go_ret
   exact⟨rfl,rfl⟩
 ·have e:H9 v=false:=by simp[H9];omega
  rw[e]
  go_enter Tryz.func110,Tryz.ntmps110
  go_wp2
  go_ret
  exact⟨rfl,rfl⟩
structure But (S:List Nat) (w w':World):Prop where
 os:w'.os=w.os
 tape:w'.tape=w.tape
 output:w'.output=w.output
 size:w.heap.size<=w'.heap.size
 block:∀k,k<w.heap.size->k∉S->w'.heap[k]?=w.heap[k]?
theorem But.refl (S:List Nat) (w:World):But S w w:=⟨rfl,rfl,rfl,Nat.le_refl _,fun _ _ _=>rfl⟩
theorem But.trans {S:List Nat} {a b c:World} (h:But S a b) (k:But S b c):But S a c :=
 ⟨k.os.trans h.os,k.tape.trans h.tape,k.output.trans h.output,Nat.le_trans h.size k.size,fun i hi hs=>(k.block i (Nat.lt_of_lt_of_le hi h.size) hs).trans (h.block i hi hs)⟩
theorem But.of_below {S:List Nat} {w w':World} (h:Below w.heap.size w w'):But S w w':=⟨h.os,h.tape,h.output,h.size,fun k hk _=>h.block k hk⟩
theorem But.below {S:List Nat} {w w':World} (h:But S w w') (B:Nat) (hB:B<=w.heap.size) (hs:∀k,k∈S->B<=k):Below B w w' :=
 ⟨h.os,h.tape,h.output,h.size,fun k hk=>h.block k (by omega) (fun e=>by have:=hs k e;omega)⟩
theorem But.mono {S T:List Nat} {w w':World} (h:But S w w') (hs:∀k,k∈S->k∈T∨w.heap.size<=k):But T w w' :=
 ⟨h.os,h.tape,h.output,h.size,fun k hk hn=>h.block k hk (fun e=>by rcases hs k e with h1|h1;exact hn h1;omega)⟩
theorem But.grown {S:List Nat} {w w':World} {g:Nat} (h:w.grownBy w' (some g)) (hg:g∈S∨w.heap.size<=g):But S w w' :=
 ⟨h.os,h.tape,h.output,h.size,fun k hk hn=>h.block k hk (fun e=>by simp only[Option.some.injEq] at e;subst e;rcases hg with h1|h1;exact hn h1;omega)⟩
theorem But.setCell {S:List Nat} (w:World) {p:Addr} (hp:p.block∈S) (u:Value):But S w (w.setCell p u) :=
 ⟨rfl,rfl,rfl,by simp[World.setCell],fun k hk hn=>Below.heap_setCell _ _ _ _ (fun e=>hn (e▸hp))⟩
theorem But.drew {S:List Nat} {a w:World} (h:But S a w):But S a w.drew:=⟨h.os,h.tape,h.output,h.size,h.block⟩
theorem But.cell {S:List Nat} {w w':World} (h:But S w w') {p:Addr} (hp:p.block<w.heap.size) (hn:p.block∉S):w'.cell? p=w.cell? p:=World.cell?_of_block (w:=w) (h.block p.block hp hn)
theorem But.blk {S:List Nat} {w w':World} (h:But S w w') {g:Nat} {e:TypeId} {cs:Array Value} (hb:au w g e cs) (hn:g∉S):au w' g e cs:=(h.block g hb.lt hn).trans hb
theorem But.map {S:List Nat} {w w':World} (h:But S w w') {P:Program} {k:TypeId} {b n:Nat} {f:ByteArray->Option Value} (hm:Bv P k w b n f) (hn:b∉S):Bv P k w' b n f:=hm.block (h.block b hm.lt hn)
def Yg (f:ByteArray->Option Value) (s:ByteArray) (v:Value):ByteArray->Option Value:=fun x=>if x=s then some v else f x
theorem acj (f:ByteArray->Option Value) (s:ByteArray) (v:Value):Yg f s v s=some v:=if_pos rfl
theorem aaj (f:ByteArray->Option Value) (s:ByteArray) (v:Value) (x:ByteArray) (h:x≠s):Yg f s v x=f x:=if_neg h
def aah (f:ByteArray->Option Value) (s:ByteArray):Bool:=(f s).isNone&&nameB s
abbrev Ba (w:World) (b n:Nat) (f:ByteArray->Option Value):Prop:=Bv Tryz.prog 9 w b n f
theorem Qb (w:World):(zeroValue 3).run Tryz.prog w=.ok (.int .i64 0) w:=by kernel_rfl
set_option maxHeartbeats 1000000 in
theorem aol (pb mb n:Nat) (f:ByteArray->Option Value) (s:ByteArray) (w:World) (hs:Len s.size) (hn:n<=2000) (hc:w.cell? ⟨pb,1,none⟩=some (.map (some mb))) (hM:Ba w mb n f) :
  Calls Tryz.prog 108 #[.pointer (some ⟨pb,0,none⟩),.string s] w fun e w'=>e=.returned (.bool (aah f s))∧(aah f s=true->Ba w' mb (n+1) (Yg f s (.int .i64 n))∧But [mb] w w')∧(aah f s=false->Below w.heap.size w w'):=by
 have hs':s.size<=maxLen:=by unfold Len at hs;unfold maxLen;omega
 have HM:=hide hM
 have V4:=hide (abb s w hs)
 cases hf:f s with
 | some v =>
  rw[show aah f s=false by unfold aah;rw[hf];rfl]
  have hlk:=hM.hit Tryz.underlying9 Tryz.underlying93 (Qb w) hs' hf
  clear hM hf
  go_enter Tryz.func108,Tryz.ntmps108
  go_wp2
  go_ret
  exact⟨rfl,(fun h=>by cases h),fun _=>Below.refl _ _⟩
 | none =>
  have hlk:=hM.miss Tryz.underlying9 Tryz.underlying93 (Qb w) hs' hf
  rw[show aah f s=nameB s by unfold aah;rw[hf];rfl]
  have Ql:=hide hf
  clear hM hf
  generalize nameB s=nb at *
  cases nb
  ·go_enter Tryz.func108,Tryz.ntmps108
   go_wp2_with fail
   refine(uh V4).mono ?_
   rintro e w1 ⟨rfl,hb1⟩
   have HB1:=hide hb1
   clear hb1
   go_wp2
   go_ret
   exact⟨rfl,(fun h=>by cases h),fun _=>uh HB1⟩
  ·go_enter Tryz.func108,Tryz.ntmps108
   go_wp2_with fail
   refine(uh V4).mono ?_
   rintro e w1 ⟨rfl,hb1⟩
   have c1:w1.cell? ⟨pb,1,none⟩=some (.map (some mb)):=by rw[hb1.cell (p:=⟨pb,1,none⟩) (World.block_lt_of_cell? w _ hc)];exact hc
   have hM1:Ba w1.drew mb n f:=((uh HM).below hb1 (uh HM).lt).block rfl
   obtain⟨w2,hst,hM2,hg⟩:=hM1.store Tryz.underlying9 Tryz.underlying93 (by unfold maxLen;omega) hs' (uh Ql) (.int .i64 (n:Int))
   have hln:∀ty,(Builtin.len_ #[93] ty #[.map (some mb)]).run Tryz.prog w1.drew=.ok (.int .i64 (n:Int)) w1.drew:=fun ty=>hM1.len Tryz.underlying93 ty
   have HP:Hid (Ba w2 mb (n+1) (Yg f s (.int .i64 n))∧But [mb] w w2):=⟨hM2 _ (acj _ _ _) (fun x hx=>aaj _ _ _ x hx),(But.of_below hb1).drew.trans (But.grown hg (Or.inl (List.mem_singleton.2 rfl)))⟩
   clear hb1 hM1 hM2 hg hc hlk
   go_wp2_with fail
   go_region
   go_wp2
   go_ret
   exact⟨rfl,(fun _=>uh HP),fun h=>by cases h⟩
end Go.Proofs.YtlcgnbcgmljpaaaGreat
