import Derived.Test.YtlcgnbcgmljpaaaGreatFS7
import Derived.Test.YtlcgnbcgmljpaaaGreatData
namespace Go.Proofs.YtlcgnbcgmljpaaaGreat
open Go.RowKit Go.ChangeShapes Go.WideShapes
set_option linter.unusedSimpArgs false
set_option linter.unusedVariables false
section
variable {H:Type} {enc:TypeId × Value->H} {w:World} {spare:Nat->Bool} {held:Bool}
theorem awj {α:Type} {l:List α} (h:l.length=6):∃a b c d e f,l=[a,b,c,d,e,f]:=by
 match l,h with
 | [a,b,c,d,e,f],_=>exact⟨a,b,c,d,e,f,rfl⟩
theorem awk {α:Type} {l:List α} (h:l.length=7):∃a b c d e f g,l=[a,b,c,d,e,f,g]:=by
 match l,h with
 | [a,b,c,d,e,f,g],_=>exact⟨a,b,c,d,e,f,g,rfl⟩
theorem aao:Tryz.prog.cellsOf 109=2:=by kernel_rfl
theorem ag6:Tryz.prog.cellsOf 114=6:=by kernel_rfl
theorem ac1:Tryz.prog.cellsOf 54=7:=by kernel_rfl
theorem ac3:Tryz.prog.cellsOf 51=1:=by kernel_rfl
theorem ao5:Tryz.prog.cellsOf 52=1:=by kernel_rfl
theorem ajv:Tryz.prog.cellsOf 22=1:=by kernel_rfl
theorem ae6:Tryz.prog.cellsOf 41=1:=by kernel_rfl
theorem ao1:Tryz.prog.cellsOf 24=1:=by kernel_rfl
theorem ae7:Tryz.prog.bytesOf 109=24:=by kernel_rfl
theorem arl:Tryz.prog.bytesOf 114=104:=by kernel_rfl
theorem ak5:Tryz.prog.bytesOf 54=160:=by kernel_rfl
theorem ag7:Tryz.prog.bytesOf 3=8:=by kernel_rfl
theorem aj2 (n:Nat) (cs:List Value) (d:DataW H) (pl:List MemPlace) (h:DataW.trod enc Tryz.prog w 0 spare held n 3 cs=some (d,pl)) (hw:Fv 3 d):∃x:Int,yu 0 w cs x:=by
 obtain⟨n,rfl,_,hs⟩:=DataW.trod_int Tryz.underlying3 h
 exact⟨n,rfl,Y7 hs⟩
theorem al8 (n:Nat) (cs:List Value) (d:DataW H) (pl:List MemPlace) (h:DataW.trod enc Tryz.prog w 0 spare held n 109 cs=some (d,pl)) (hw:Fv 109 d):∃x:gy,xk 0 w cs x:=by
 obtain⟨ys,m,_,hx,hl,hyl,hf⟩:=DataW.trod_struct Tryz.underlying109 h
 rw[aao] at hl
 obtain⟨c0,c1,rfl⟩:=av7 hl
 obtain⟨y0,y1,rfl⟩:=av7 (show ys.length=2 from hyl)
 have f0:DataW.trod enc Tryz.prog w 0 spare held m 9 (([c0,c1].drop 0).take (Tryz.prog.cellsOf 9))=some y0:=hf 0 _ rfl
 rw[Jj] at f0
 replace f0:DataW.trod enc Tryz.prog w 0 spare held m 9 [c0]=some y0:=f0
 have f1:DataW.trod enc Tryz.prog w 0 spare held m 3 (([c0,c1].drop 1).take (Tryz.prog.cellsOf 3))=some y1:=hf 1 _ rfl
 rw[Md] at f1
 replace f1:DataW.trod enc Tryz.prog w 0 spare held m 3 [c1]=some y1:=f1
 simp only[Prod.mk.injEq] at hx
 obtain⟨rfl,rfl⟩:=hx
 unfold Fv at hw
 simp only[List.map_cons,List.map_nil,DataW.weights,Tryz.underlying109,DataW.weightsEach,List.append_nil,List.mem_append] at hw
 have w0:Fv 9 y0.1:=fun k hk=>hw k (Or.inl hk)
 have w1:Fv 3 y1.1:=fun k hk=>hw k (Or.inr (hk))
 obtain⟨s0,hc0,hs0⟩:=abm f0 w0
 obtain rfl:c0=.string s0:=by simpa using hc0
 obtain⟨n1,hc1,_,hs1⟩:=DataW.trod_int Tryz.underlying3 f1
 obtain rfl:c1=.int .i64 n1:=by simpa using hc1
 exact⟨⟨s0,n1⟩,rfl,hs0,Y7 hs1⟩
theorem a1m (n:Nat) (cs:List Value) (d:DataW H) (pl:List MemPlace) (h:DataW.trod enc Tryz.prog w 0 spare held n 114 cs=some (d,pl)) (hw:Fv 114 d):∃x:dh,Ec 0 w cs x:=by
 obtain⟨ys,m,_,hx,hl,hyl,hf⟩:=DataW.trod_struct Tryz.underlying114 h
 rw[ag6] at hl
 obtain⟨c0,c1,c2,c3,c4,c5,rfl⟩:=awj hl
 obtain⟨y0,y1,y2,y3,y4,y5,rfl⟩:=awj (show ys.length=6 from hyl)
 have f0:DataW.trod enc Tryz.prog w 0 spare held m 3 (([c0,c1,c2,c3,c4,c5].drop 0).take (Tryz.prog.cellsOf 3))=some y0:=hf 0 _ rfl
 rw[Md] at f0
 replace f0:DataW.trod enc Tryz.prog w 0 spare held m 3 [c0]=some y0:=f0
 have f1:DataW.trod enc Tryz.prog w 0 spare held m 9 (([c0,c1,c2,c3,c4,c5].drop 1).take (Tryz.prog.cellsOf 9))=some y1:=hf 1 _ rfl
 rw[Jj] at f1
 replace f1:DataW.trod enc Tryz.prog w 0 spare held m 9 [c1]=some y1:=f1
 have f2:DataW.trod enc Tryz.prog w 0 spare held m 3 (([c0,c1,c2,c3,c4,c5].drop 2).take (Tryz.prog.cellsOf 3))=some y2:=hf 2 _ rfl
 rw[Md] at f2
 replace f2:DataW.trod enc Tryz.prog w 0 spare held m 3 [c2]=some y2:=f2
 have f3:DataW.trod enc Tryz.prog w 0 spare held m 40 (([c0,c1,c2,c3,c4,c5].drop 3).take (Tryz.prog.cellsOf 40))=some y3:=hf 3 _ rfl
 rw[aes] at f3
 replace f3:DataW.trod enc Tryz.prog w 0 spare held m 40 [c3]=some y3:=f3
 have f4:DataW.trod enc Tryz.prog w 0 spare held m 111 (([c0,c1,c2,c3,c4,c5].drop 4).take (Tryz.prog.cellsOf 111))=some y4:=hf 4 _ rfl
 rw[ac0] at f4
 replace f4:DataW.trod enc Tryz.prog w 0 spare held m 111 [c4]=some y4:=f4
 have f5:DataW.trod enc Tryz.prog w 0 spare held m 112 (([c0,c1,c2,c3,c4,c5].drop 5).take (Tryz.prog.cellsOf 112))=some y5:=hf 5 _ rfl
 rw[ai0] at f5
 replace f5:DataW.trod enc Tryz.prog w 0 spare held m 112 [c5]=some y5:=f5
 simp only[Prod.mk.injEq] at hx
 obtain⟨rfl,rfl⟩:=hx
 unfold Fv at hw
 simp only[List.map_cons,List.map_nil,DataW.weights,Tryz.underlying114,DataW.weightsEach,List.append_nil,List.mem_append] at hw
 have w0:Fv 3 y0.1:=fun k hk=>hw k (Or.inl hk)
 have w1:Fv 9 y1.1:=fun k hk=>hw k (Or.inr (Or.inl hk))
 have w2:Fv 3 y2.1:=fun k hk=>hw k (Or.inr (Or.inr (Or.inl hk)))
 have w3:Fv 40 y3.1:=fun k hk=>hw k (Or.inr (Or.inr (Or.inr (Or.inl hk))))
 have w4:Fv 111 y4.1:=fun k hk=>hw k (Or.inr (Or.inr (Or.inr (Or.inr (Or.inl hk)))))
 have w5:Fv 112 y5.1:=fun k hk=>hw k (Or.inr (Or.inr (Or.inr (Or.inr (Or.inr (hk))))))
 obtain⟨n0,hc0,_,hs0⟩:=DataW.trod_int Tryz.underlying3 f0
 obtain rfl:c0=.int .i64 n0:=by simpa using hc0
 obtain⟨s1,hc1,hs1⟩:=abm f1 w1
 obtain rfl:c1=.string s1:=by simpa using hc1
 obtain⟨n2,hc2,_,hs2⟩:=DataW.trod_int Tryz.underlying3 f2
 obtain rfl:c2=.int .i64 n2:=by simpa using hc2
 obtain⟨v3,l3,hv3,hs3⟩:=Hu (R:=uz) Tryz.underlying40 Jj abn (by decide) (by decide) (fun n cs d pl h hw=>ai1 n cs d pl h hw) f3 w3
 obtain rfl:c3=v3:=by simpa using hv3
 obtain⟨v4,l4,hv4,hs4⟩:=Hu (R:=tu) Tryz.underlying111 Zz aeu (by decide) (by decide) (fun n cs d pl h hw=>alx n cs d pl h hw) f4 w4
 obtain rfl:c4=v4:=by simpa using hv4
 obtain⟨v5,l5,hv5,hs5⟩:=Hu (R:=vw) Tryz.underlying112 ac0 akv (by decide) (by decide) (fun n cs d pl h hw=>atl n cs d pl h hw) f5 w5
 obtain rfl:c5=v5:=by simpa using hv5
 exact⟨⟨n0,s1,n2,l3,l4,l5⟩,c3,c4,c5,rfl,hs1,Y7 hs0,Y7 hs2,hs3,hs4,hs5⟩
theorem au1 (n:Nat) (cs:List Value) (d:DataW H) (pl:List MemPlace) (h:DataW.trod enc Tryz.prog w 0 spare held n 54 cs=some (d,pl)) (hw:Fv 54 d):∃x:ak,ni 0 w cs x:=by
 obtain⟨ys,m,_,hx,hl,hyl,hf⟩:=DataW.trod_struct Tryz.underlying54 h
 rw[ac1] at hl
 obtain⟨c0,c1,c2,c3,c4,c5,c6,rfl⟩:=awk hl
 obtain⟨y0,y1,y2,y3,y4,y5,y6,rfl⟩:=awk (show ys.length=7 from hyl)
 have f0:DataW.trod enc Tryz.prog w 0 spare held m 9 (([c0,c1,c2,c3,c4,c5,c6].drop 0).take (Tryz.prog.cellsOf 9))=some y0:=hf 0 _ rfl
 rw[Jj] at f0
 replace f0:DataW.trod enc Tryz.prog w 0 spare held m 9 [c0]=some y0:=f0
 have f1:DataW.trod enc Tryz.prog w 0 spare held m 51 (([c0,c1,c2,c3,c4,c5,c6].drop 1).take (Tryz.prog.cellsOf 51))=some y1:=hf 1 _ rfl
 rw[ac3] at f1
 replace f1:DataW.trod enc Tryz.prog w 0 spare held m 51 [c1]=some y1:=f1
 have f2:DataW.trod enc Tryz.prog w 0 spare held m 51 (([c0,c1,c2,c3,c4,c5,c6].drop 2).take (Tryz.prog.cellsOf 51))=some y2:=hf 2 _ rfl
 rw[ac3] at f2
 replace f2:DataW.trod enc Tryz.prog w 0 spare held m 51 [c2]=some y2:=f2
 have f3:DataW.trod enc Tryz.prog w 0 spare held m 40 (([c0,c1,c2,c3,c4,c5,c6].drop 3).take (Tryz.prog.cellsOf 40))=some y3:=hf 3 _ rfl
 rw[aes] at f3
 replace f3:DataW.trod enc Tryz.prog w 0 spare held m 40 [c3]=some y3:=f3
 have f4:DataW.trod enc Tryz.prog w 0 spare held m 41 (([c0,c1,c2,c3,c4,c5,c6].drop 4).take (Tryz.prog.cellsOf 41))=some y4:=hf 4 _ rfl
 rw[ae6] at f4
 replace f4:DataW.trod enc Tryz.prog w 0 spare held m 41 [c4]=some y4:=f4
 have f5:DataW.trod enc Tryz.prog w 0 spare held m 41 (([c0,c1,c2,c3,c4,c5,c6].drop 5).take (Tryz.prog.cellsOf 41))=some y5:=hf 5 _ rfl
 rw[ae6] at f5
 replace f5:DataW.trod enc Tryz.prog w 0 spare held m 41 [c5]=some y5:=f5
 have f6:DataW.trod enc Tryz.prog w 0 spare held m 52 (([c0,c1,c2,c3,c4,c5,c6].drop 6).take (Tryz.prog.cellsOf 52))=some y6:=hf 6 _ rfl
 rw[ao5] at f6
 replace f6:DataW.trod enc Tryz.prog w 0 spare held m 52 [c6]=some y6:=f6
 simp only[Prod.mk.injEq] at hx
 obtain⟨rfl,rfl⟩:=hx
 unfold Fv at hw
 simp only[List.map_cons,List.map_nil,DataW.weights,Tryz.underlying54,DataW.weightsEach,List.append_nil,List.mem_append] at hw
 have w0:Fv 9 y0.1:=fun k hk=>hw k (Or.inl hk)
 have w1:Fv 51 y1.1:=fun k hk=>hw k (Or.inr (Or.inl hk))
 have w2:Fv 51 y2.1:=fun k hk=>hw k (Or.inr (Or.inr (Or.inl hk)))
 have w3:Fv 40 y3.1:=fun k hk=>hw k (Or.inr (Or.inr (Or.inr (Or.inl hk))))
 have w4:Fv 41 y4.1:=fun k hk=>hw k (Or.inr (Or.inr (Or.inr (Or.inr (Or.inl hk)))))
 have w5:Fv 41 y5.1:=fun k hk=>hw k (Or.inr (Or.inr (Or.inr (Or.inr (Or.inr (Or.inl hk))))))
 have w6:Fv 52 y6.1:=fun k hk=>hw k (Or.inr (Or.inr (Or.inr (Or.inr (Or.inr (Or.inr (hk)))))))
 obtain⟨s0,hc0,hs0⟩:=abm f0 w0
 obtain rfl:c0=.string s0:=by simpa using hc0
 obtain⟨v1,l1,hv1,hs1⟩:=Hu (R:=xk) Tryz.underlying51 aao ae7 (by decide) (by decide) (fun n cs d pl h hw=>al8 n cs d pl h hw) f1 w1
 obtain rfl:c1=v1:=by simpa using hv1
 obtain⟨v2,l2,hv2,hs2⟩:=Hu (R:=xk) Tryz.underlying51 aao ae7 (by decide) (by decide) (fun n cs d pl h hw=>al8 n cs d pl h hw) f2 w2
 obtain rfl:c2=v2:=by simpa using hv2
 obtain⟨v3,l3,hv3,hs3⟩:=Hu (R:=uz) Tryz.underlying40 Jj abn (by decide) (by decide) (fun n cs d pl h hw=>ai1 n cs d pl h hw) f3 w3
 obtain rfl:c3=v3:=by simpa using hv3
 obtain⟨v4,l4,hv4,hs4⟩:=Hu (R:=yu) Tryz.underlying41 Md ag7 (by decide) (by decide) (fun n cs d pl h hw=>aj2 n cs d pl h hw) f4 w4
 obtain rfl:c4=v4:=by simpa using hv4
 obtain⟨v5,l5,hv5,hs5⟩:=Hu (R:=yu) Tryz.underlying41 Md ag7 (by decide) (by decide) (fun n cs d pl h hw=>aj2 n cs d pl h hw) f5 w5
 obtain rfl:c5=v5:=by simpa using hv5
 obtain⟨v6,l6,hv6,hs6⟩:=Hu (R:=Ec) Tryz.underlying52 ag6 arl (by decide) (by decide) (fun n cs d pl h hw=>a1m n cs d pl h hw) f6 w6
 obtain rfl:c6=v6:=by simpa using hv6
 exact⟨⟨s0,l1,l2,l3,l4,l5,l6⟩,c1,c2,c3,c4,c5,c6,rfl,hs0,hs1,hs2,hs3,hs4,hs5,hs6⟩
end
end Go.Proofs.YtlcgnbcgmljpaaaGreat
