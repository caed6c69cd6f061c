import Derived.Test.YtlcgnbcgmljpaaaGreatM15
namespace Go.Proofs.YtlcgnbcgmljpaaaGreat
open Go.RowKit
set_option linter.unusedSimpArgs false
set_option linter.unusedVariables false
theorem bf.each {α:Type} {sz jh lo:Nat} {R:Nat->World->List Value->α->Prop} {ok:α->Prop} (hR:∀lo w cs x,R lo w cs x->ok x) {w:World} {v:Value} {xs:List α} (h:bf sz jh R lo w v xs):∀x,x∈xs->ok x:=by
 obtain⟨a,cap,_,_,_,h3⟩:=h
 intro x hx
 obtain⟨i,hi,rfl⟩:=List.mem_iff_getElem.1 hx
 obtain⟨_,_,_,_,_,_,_,_,h9⟩:=h3 i hi
 exact hR _ _ _ _ h9
theorem alu (lo:Nat) (w:World) (cs:List Value) (x:gy) (h:xk lo w cs x):O4 x:=⟨h.2.1,h.2.2⟩
theorem ap9 (lo:Nat) (w:World) (cs:List Value) (x:ByteArray) (h:uz lo w cs x):okS x:=h.2
theorem aqa (lo:Nat) (w:World) (cs:List Value) (x:iw) (h:tu lo w cs x):okI x:=⟨h.2.1,h.2.2.1,h.2.2.2⟩
theorem aqb (lo:Nat) (w:World) (cs:List Value) (x:Int) (h:yu lo w cs x):I64 x:=h.2
theorem Rw {T:Nat} {wr w':World} {kb:Nat} {cells:Array Value} (hB:au w' kb T cells) (hw:Below wr.heap.size wr w') (hkb:wr.heap.size<=kb) (j:Nat) (u:Value) :
  au (w'.setCell ⟨kb,j,none⟩ u) kb T (cells.setIfInBounds j u)∧Fb T w' (w'.setCell ⟨kb,j,none⟩ u)∧Below wr.heap.size wr (w'.setCell ⟨kb,j,none⟩ u) :=
 ⟨hB.set j u,Fb.set hB j u,hw.setCell hkb u⟩
theorem Rx {T:Nat} {α:Type} {E:wo Tryz.prog α} {ok:α->Prop} {wr w' w'':World} {kb:Nat} {cells:Array Value} {xs:List α} {g' cap':Nat} (hB:au w' kb T cells) (hw:Below wr.heap.size wr w') (hkb:wr.heap.size<=kb) (hE:T≠E.T) (ho:dw E w'' w'.heap.size (.slice (some ⟨g',0,none⟩) xs.length cap') xs) (hg:(w'.alloc (.cells #[] E.T)).grownBy w'' (some w'.heap.size)) (hk:∀x,x∈xs->ok x) (hl:xs.length*E.jh<=140737488355328) (j:Nat) :
  au (w''.setCell ⟨kb,j,none⟩ (.slice (some ⟨g',0,none⟩) xs.length cap')) kb T (cells.setIfInBounds j (.slice (some ⟨g',0,none⟩) xs.length cap'))∧Fb T w' (w''.setCell ⟨kb,j,none⟩ (.slice (some ⟨g',0,none⟩) xs.length cap'))∧Below wr.heap.size wr (w''.setCell ⟨kb,j,none⟩ (.slice (some ⟨g',0,none⟩) xs.length cap'))∧zf E ok (w''.setCell ⟨kb,j,none⟩ (.slice (some ⟨g',0,none⟩) xs.length cap')) (.slice (some ⟨g',0,none⟩) xs.length cap') xs [g']:=by
 have hA:Below w'.heap.size w' (w'.alloc (.cells #[] E.T)):=(Below.refl _ _).alloc (Nat.le_refl _) _
 have hb2:Below w'.heap.size w' w'':=⟨hg.os.trans hA.os,hg.tape.trans hA.tape,hg.output.trans hA.output,Nat.le_trans hA.size hg.size,fun k hk=>(hg.block k (Nat.lt_of_lt_of_le hk hA.size) (fun e9=>by have:=Option.some.inj e9;omega)).trans (hA.block k hk)⟩
 obtain⟨h1,h2,h3⟩:=Rw (hB.below hb2 hB.lt) (hw.trans (hb2.mono hw.size)) hkb j (.slice (some ⟨g',0,none⟩) xs.length cap')
 exact⟨h1,(Fb.P7 hb2).trans h2,h3,(aqc ho hk hl).Cm h2 hE⟩
def KS (s:dh) (sb:Nat) (n3 n4 n5:Value) (w:World):Prop:=au w sb 60 #[.int .i64 s.kind,.string s.name,.int .i64 s.at_,n3,n4,n5]∧(∃b,zf Gw okS w n3 s.outs b)∧∃b,zf Dv okI w n4 s.code b
theorem KS.Cm {s:dh} {sb:Nat} {n3 n4 n5:Value} {w w':World} (h:KS s sb n3 n4 n5 w) {T:Nat} (hk:Fb T w w') (hT:T∉[60,9,141]):KS s sb n3 n4 n5 w':=by
 obtain⟨h1,⟨b2,h2⟩,b3,h3⟩:=h
 simp only[List.mem_cons,List.not_mem_nil,or_false,not_or] at hT
 exact⟨hk.blk h1 (fun e=>hT.1 e.symm),⟨b2,h2.Cm hk hT.2.1⟩,b3,h3.Cm hk hT.2.2⟩
theorem KS.stm {s:dh} {sb:Nat} {n3 n4 n5:Value} {w:World} (h:KS s sb n3 n4 n5 w) (h1:Len s.name.size) (h2:I64 s.kind) (h3:I64 s.at_) {b:List Nat} (h4:C9 Fg Dw w n5 s.args b):∃bs,Aa w [.int .i64 s.kind,.string s.name,.int .i64 s.at_,n3,n4,n5] s bs:=by
 obtain⟨_,⟨b1,g1⟩,b2,g2⟩:=h
 exact⟨_,_,_,_,b1,b2,b,rfl,h1,h2,h3,g1,g2,h4,rfl⟩
def KC (k:ak) (kb:Nat) (n1 n2 n3 n4 n5 n6:Value) (w:World):Prop:=au w kb 43 #[.string k.name,n1,n2,n3,n4,n5,n6]∧(∃b,zf yh O4 w n1 k.ins b)∧(∃b,zf yh O4 w n2 k.outs b)∧(∃b,zf Gw okS w n3 k.ay b)∧(∃b,zf Hw I64 w n4 k.aj b)∧∃b,zf Hw I64 w n5 k.insts b
theorem KC.Cm {k:ak} {kb:Nat} {n1 n2 n3 n4 n5 n6:Value} {w w':World} (h:KC k kb n1 n2 n3 n4 n5 n6 w) {T:Nat} (hk:Fb T w w') (hT:T∉[43,79,9,3]):KC k kb n1 n2 n3 n4 n5 n6 w':=by
 obtain⟨h1,⟨b2,h2⟩,⟨b3,h3⟩,⟨b4,h4⟩,⟨b5,h5⟩,b6,h6⟩:=h
 simp only[List.mem_cons,List.not_mem_nil,or_false,not_or] at hT
 exact⟨hk.blk h1 (fun e=>hT.1 e.symm),⟨b2,h2.Cm hk hT.2.1⟩,⟨b3,h3.Cm hk hT.2.1⟩,⟨b4,h4.Cm hk hT.2.2.1⟩,⟨b5,h5.Cm hk hT.2.2.2⟩,b6,h6.Cm hk hT.2.2.2⟩
theorem KC.cls {k:ak} {kb:Nat} {n1 n2 n3 n4 n5 n6:Value} {w:World} (h:KC k kb n1 n2 n3 n4 n5 n6 w) (h1:Len k.name.size) {b:List Nat} (h4:C9 zh Aa w n6 k.body b):∃bs,oh w [.string k.name,n1,n2,n3,n4,n5,n6] k bs:=by
 obtain⟨_,⟨b1,g1⟩,⟨b2,g2⟩,⟨b3,g3⟩,⟨b4,g4⟩,b5,g5⟩:=h
 exact⟨_,_,_,_,_,_,_,b1,b2,b3,b4,b5,b,rfl,h1,g1,g2,g3,g4,g5,h4,rfl⟩
def CpP (ks:List ak) (w:World) (e:Ending) (w':World):Prop:=∃v,e=.returned (.agg #[v])∧Ad uj oh w.heap.size w' v ks∧Below w.heap.size w w'
end Go.Proofs.YtlcgnbcgmljpaaaGreat
