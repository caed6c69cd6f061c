import Derived.Test.YtflcnhfakcgkeaaGreatODA
import Derived.Test.YtflcnhfakcgkeaaGreatMkP
import Derived.Test.YtflcnhfakcgkeaaGreatData
import Derived.Test.YtflcnhfakcgkeaaGreatProg
import Derived.ProofKit
import Derived.ChangeOld
import Derived.SizedLaws
import Derived.Deep.Slices
namespace Go.Proofs.YtflcnhfakcgkeaaGreat
open Go.RowKit Go.Shelf
set_option linter.unusedSimpArgs false
set_option linter.unusedVariables false
theorem iw.aq4 {w:World} {base:Nat} {v:Value} {xs:List Int} (h:iw mg w base v xs) (hx:∀x,x∈xs->I64 x) (hn:xs.length<=1000000):bf 1 8 Oo base w v xs:=by
 rcases h.shape with ⟨rfl,rfl⟩|⟨g,cap,rfl,hb,hlt,hcap⟩
 ·exact⟨none,0,rfl,⟨by simp[Len],Nat.le_refl _⟩,by simp[Len],fun i hi=>absurd hi (Nat.not_lt_zero _)⟩
 ·refine⟨_,cap,rfl,⟨by show xs.length*8<=_;omega,hcap⟩,by unfold Len;omega,fun i hi=>⟨g,0,[.int .i64 xs[i]],rfl,hb,hlt,rfl,fun j hj=>?_,rfl,hx _ (List.getElem_mem hi)⟩⟩
  have hj0:j=0:=by simpa using hj
  subst hj0
  have h9:=h.Yp i hi
  simpa using h9
theorem iw.a0c {w:World} {base:Nat} {v:Value} {xs:List Int} (h:iw mg w base v xs) (hn:xs.length<=1000000):ado w v xs.length:=by
 obtain⟨h1,h2⟩:=h
 rcases h2 with ⟨rfl,h2⟩|⟨g,cap,cur,hv,hg,hh,hc,hz,hcz,_⟩
 ·rw[h2]
  exact⟨none,0,rfl,Nat.zero_le _,fun h0=>absurd h0 (Nat.lt_irrefl 0)⟩
 ·refine⟨_,cap,hv,hn,fun _=>⟨g,cur.size,?_,rfl,cur,_,hh,rfl⟩⟩
  rw[hcz]
  show xs.length<=cap*1
  omega
set_option maxHeartbeats 2000000 in
theorem ako (ns:List ay) (nd:Int) (v:Value) (w:World) (h1:bf 5 112 o7 0 w v ns):Calls Tryz.prog 7 #[.agg #[v],.int .i64 nd] w (abd (Ic ns nd) w):=by
 obtain⟨b0,c0,rfl⟩:=h1.shape
 have hB0:Below w.heap.size w (w.alloc (.cells #[.slice b0 ns.length c0] 30)):=(Below.refl w.heap.size w).alloc (Nat.le_refl _) _
 have B0:=hide hB0
 have hbx:=jd w #[.slice b0 ns.length c0] 30
 have k0:=hbx.cell (i:=0) (v:=.slice b0 ns.length c0) rfl
 have HPS:=hide (aq0 ns _ _ (h1.stays jk hB0))
 have H1:=hide h1
 have tu:=hide hbx
 clear hB0 hbx h1
 by_cases hno:(qp ns).1=0∧0<=nd∧nd<(ns.length:Int)
 case neg =>
  have HE:Hid (Ic ns nd=[]):=hide (akf hno)
  obtain⟨PO,l7⟩:∃PO:Ending->World->Prop,PO=abd (Ic ns nd) w:=⟨_,rfl⟩
  rw[←l7]
  have qy:=hide l7
  have gq:Hid (∀w',Below w.heap.size w w'->PO (.returned (.slice none 0 0)) w'):=by
   refine hide (fun w' hb=>?_)
   rw[uh qy,uh HE]
   exact⟨_,rfl,(iw.nil w' w.heap.size).aq4 (fun x hx=>by cases hx) (by simp),(iw.nil w' w.heap.size).a0c (by simp),fun b hb=>(by cases hb),hb⟩
  clear l7
  by_cases hc:(qp ns).1=0
  ·have hcb:((qp ns).1 == 0)=true:=by rw[hc];rfl
   rw[hcb] at HPS
   by_cases hn0:nd<0
   ·clear hno hc hcb
    go_enter Tryz.func7,Tryz.ntmps7
    go_wp2_with (first|(go_at_call 17;refine(uh HPS).mono ?_;rintro e w1 ⟨rfl,hb1⟩;have BB:Hid (Below w.heap.size w w1):=(uh B0).trans (hb1.mono (uh B0).size);clear hb1))
    exact uh gq _ (uh BB)
   ·have hn1:(ns.length:Int)<=nd:=by
     refine Classical.byContradiction fun h9=>hno ⟨hc,by omega,by omega⟩
    clear hno hc hcb
    go_enter Tryz.func7,Tryz.ntmps7
    go_wp2_with (first|(go_at_call 17;refine(uh HPS).mono ?_;rintro e w1 ⟨rfl,hb1⟩;have BB:Hid (Below w.heap.size w w1):=(uh B0).trans (hb1.mono (uh B0).size);have k1:=((uh tu).below hb1 (uh tu).lt).cell (i:=0) (v:=.slice b0 ns.length c0) rfl;clear hb1))
    exact uh gq _ (uh BB)
  ·have hcb:((qp ns).1 == 0)=false:=by rw[beq_eq_false_iff_ne];exact hc
   rw[hcb] at HPS
   clear hno hc hcb
   go_enter Tryz.func7,Tryz.ntmps7
   go_wp2_with (first|(go_at_call 17;refine(uh HPS).mono ?_;rintro e w1 ⟨rfl,hb1⟩;have BB:Hid (Below w.heap.size w w1):=(uh B0).trans (hb1.mono (uh B0).size);clear hb1))
   exact uh gq _ (uh BB)
 obtain⟨hc,hk0,hk1⟩:=hno
 obtain⟨i,rfl⟩:=Int.eq_ofNat_of_zero_le hk0
 have hi:i<ns.length:=by omega
 obtain⟨hsh,hok⟩:=Zd hc
 have ho:=hok i hi
 have hnd:=(yg ns[i]).1 ho.nb
 obtain⟨bp,op,cpp,hpe,hat⟩:=(uh H1).at' i hi
 have hat:At 5 o7 w bp (op+i*5) ns[i]:=hat
 simp only[Value.slice.injEq] at hpe
 obtain⟨rfl,H8,rfl⟩:=hpe
 clear H8
 have HE:Hid (Ic ns (i:Int)=su ns[i] ns[i].eqs.length):=hide (agv hc hi)
 have hcb:((qp ns).1 == 0)=true:=by rw[hc];rfl
 rw[hcb] at HPS
 have hge:¬((i:Int)<0):=by omega
 have hgl:¬((ns.length:Int)<=(i:Int)):=by omega
 obtain⟨PO,l7⟩:∃PO:Ending->World->Prop,PO=abd (Ic ns (i:Int)) w:=⟨_,rfl⟩
 rw[←l7]
 have qy:=hide l7
 have HGS:Hid (∀w1,Below w.heap.size w w1->Calls Tryz.prog 18 #[.pointer (some ⟨bp,op+i*5,none⟩)] w1 (aki w1 ns[i] bp (op+i*5))):=by
  refine hide (fun w1 hb=>afw w1 ns[i] bp (op+i*5) (hat.stays jk hb) (fun v hv=>?_) ?_ (fun k hk=>?_))
  ·have h9:=Nj ho.nb v hv
   unfold Nh at h9
   simp only[Bool.and_eq_true,decide_eq_true_iff] at h9
   omega
  ·have h9:=hnd.1
   unfold aj
   simp only[List.length_append]
   omega
  ·have h9:=ho.eqs k hk
   rw[Ye _ _ _ _ _ hk] at h9
   exact(Tj h9).1
 have HO:=hide ho
 have HAT:=hide hat
 have hel:=ho.lp.len
 have H6:=hide hel
 clear l7 hc hcb hk0 hsh hok ho hnd hat hel
 go_enter Tryz.func7,Tryz.ntmps7
 go_wp2_with (first|(go_at_call 17;refine(uh HPS).mono ?_;rintro e w1 ⟨rfl,hb1⟩;have BB:Hid (Below w.heap.size w w1):=(uh B0).trans (hb1.mono (uh B0).size);have k1:=((uh tu).below hb1 (uh tu).lt).cell (i:=0) (v:=.slice (some ⟨bp,op,none⟩) ns.length _) rfl;clear hb1)|(go_at_call 18;go_loud (refine(uh HGS _ (uh BB)).mono ?_;rintro e w2 ⟨sb,vb,ov,D,C,L,N,rfl,hsc⟩;have Nb:=hide hsc;clear hsc))|(go_at_call 19;go_loud (refine(alo w1 _ ns i ns[i] (uh HO) bp (op+i*5) ((uh HAT).stays jk (uh BB)) sb vb ov D C L N (uh Nb)).mono ?_;rintro e w3 ⟨v3,rfl,hown3,hb3⟩;obtain⟨a3,c3,hv3⟩:=hown3.slice;have HW3:=hide hown3;have HB3:=hide hb3;have HV3:=hide hv3;clear hown3 hb3 hv3)))
 rw[uh qy,uh HE]
 have h2:Below w.heap.size w w2:=(uh BB).trans ((uh Nb).old.mono (uh BB).size)
 have h3:Below w.heap.size w w3:=h2.trans ((uh HB3).mono h2.size)
 have hl:(su ns[i] ns[i].eqs.length).length<=1000000:=by rw[Jw];have:=uh H6;omega
 have hown:=(uh HW3)
 refine⟨v3,rfl,?_,hown.a0c hl,fun b hb=>Nat.le_trans h2.size (hown.block b hb),h3⟩
 exact(hown.aq4 (adr _ (uh H6) _) hl).lower O7 h2.size
theorem alp (ns:List ay) (nd:Int) (v:Value) (w:World) (h1:bf 5 112 o7 0 w v ns) :
  Calls Tryz.prog 3 #[.agg #[v],.int .i64 nd] w (Ans (.bool true) w):=alm ns nd v w h1 (fun v w h=>ako ns nd v w h)
end Go.Proofs.YtflcnhfakcgkeaaGreat
namespace Go.Proofs.YtflcnhfakcgkeaaGreat
open Go.RowKit Go.ChangeShapes Go.WideShapes
set_option linter.unusedSimpArgs false
set_option linter.unusedVariables false
section
variable {H:Type} {enc:TypeId × Value->H} {w:World} {spare:Nat->Bool} {held:Bool}
def Fp (t:TypeId) (d:DataW H):Prop:=∀n,n∈d.weights Tryz.prog t->n<=140737488355328
theorem weightsAll_mem {e:TypeId} {l:List (DataW H)} {d:DataW H} (hd:d∈l) {n:Nat} (hn:n∈d.weights Tryz.prog e):n∈DataW.weightsAll Tryz.prog e l:=by
 induction l with
 | nil=>cases hd
 | cons x xs ih =>
  simp only[DataW.weightsAll,List.mem_append]
  rcases List.mem_cons.1 hd with rfl|hd
  ·exact Or.inl hn
  ·exact Or.inr (ih hd)
theorem Ii {α:Type} {sz oz:Nat} {R:Nat->World->List Value->α->Prop} {t e:TypeId} (ht:Tryz.prog.underlying t=some (.slice e)) (hsz:Tryz.prog.cellsOf e=sz) (hby:Tryz.prog.bytesOf e=oz) (h0:0<sz) (h1:0<oz)
  (hel:∀n cs d pl,DataW.trod enc Tryz.prog w 0 spare held n e cs=some (d,pl)->Fp e d->∃x:α,R 0 w cs x)
  {fuel:Nat} {cs:List Value} {y:DataW H × List MemPlace} (h:DataW.trod enc Tryz.prog w 0 spare held fuel t cs=some y) (hw:Fp t y.1):∃v xs,cs=[v]∧bf sz oz R 0 w v xs:=by
 rcases Deep.open_slice ht h with ⟨rfl,_⟩|⟨a,len,cap,m,n,D,Pl,rfl,hb,hl,hm,hmm,rfl,hcl⟩
 ·exact⟨_,[],rfl,none,0,rfl,⟨by simp[Len],Nat.le_refl _⟩,by simp[Len],fun i hi=>absurd hi (Nat.not_lt_zero _)⟩
 ·have hlm:len<=m:=by rw[hmm];split<;>omega
  unfold Fp at hw
  simp only[DataW.weights,ht,hby] at hw
  have hbytes:len*oz<=140737488355328:=by
   have:=hw _ (List.mem_cons_self ..)
   simp only[List.length_map,List.length_range] at this
   exact Nat.le_trans (Nat.mul_le_mul_right _ (Nat.le_add_right _ _)) this
  have hlen:len<=140737488355328:=Nat.le_trans (Nat.le_mul_of_pos_right _ h1) hbytes
  have he:∀i,i<len->∃x:α,∃cs',w.cells? 0 (a.add (i*sz)) sz=some cs'∧R 0 w cs' x:=fun i hi=>by
   obtain⟨cs',hc1,hc2⟩:=hcl i (by omega)
   rw[hsz] at hc1
   obtain⟨x,hx⟩:=hel n cs' (D i) (Pl i) hc2 (fun k hk=>hw k (List.mem_cons_of_mem _ (List.mem_append_left _ (weightsAll_mem (List.mem_map.2 ⟨i,by simpa using hi,rfl⟩) hk))))
   exact⟨x,cs',hc1,hx⟩
  refine⟨_,List.ofFn (fun i:Fin len=>Classical.choose (he i.1 i.2)),rfl,some a,cap,by rw[List.length_ofFn],⟨by unfold Len;rw[List.length_ofFn];exact hbytes,by rw[List.length_ofFn];exact hl⟩,by unfold Len;rw[List.length_ofFn];exact hlen,fun i hi=>?_⟩
  have hi':i<len:=by simpa using hi
  obtain⟨cs',hc,hR⟩:=Classical.choose_spec (he i hi')
  obtain⟨_,hcl',hcell⟩:=World.cells?_some hc
  have hblk:=World.cells?_block hc h0
  obtain⟨b,o,sp⟩:=a
  have hspot:sp=none:=by
   obtain⟨_,cs0,hc0,_⟩:=he 0 (by omega)
   obtain⟨_,hl0,hcell0⟩:=World.cells?_some hc0
   have c0:=hcell0 0 h0
   rw[List.getElem?_eq_getElem (by omega)] at c0
   have:=World.cell?_spot c0
   simpa[Addr.add] using this
  subst hspot
  rw[Addr.add_lit] at hblk
  refine⟨b,o,cs',rfl,Nat.zero_le _,hblk,hcl',fun j hj=>?_,?_⟩
  ·have cj:=hcell j (by omega)
   rw[Addr.add_lit,Addr.add_lit,List.getElem?_eq_getElem hj] at cj
   exact cj
  ·rw[List.getElem_ofFn]
   exact hR
theorem awc {α:Type} {l:List α} (h:l.length=1):∃a,l=[a]:=by
 match l,h with
 | [a],_=>exact⟨a,rfl⟩
theorem awd {α:Type} {l:List α} (h:l.length=2):∃a b,l=[a,b]:=by
 match l,h with
 | [a,b],_=>exact⟨a,b,rfl⟩
theorem ahk {α:Type} {l:List α} (h:l.length=3):∃a b c,l=[a,b,c]:=by
 match l,h with
 | [a,b,c],_=>exact⟨a,b,c,rfl⟩
theorem list4 {α:Type} {l:List α} (h:l.length=4):∃a b c d,l=[a,b,c,d]:=by
 match l,h with
 | [a,b,c,d],_=>exact⟨a,b,c,d,rfl⟩
theorem awe {α:Type} {l:List α} (h:l.length=5):∃a b c d e,l=[a,b,c,d,e]:=by
 match l,h with
 | [a,b,c,d,e],_=>exact⟨a,b,c,d,e,rfl⟩
theorem akp {n:Int} (h:(Lit.int .i64 n).wf=true):I64 n:=by
 simp[Lit.wf,IntKind.min,IntKind.max,IntKind.signed,IntKind.bits] at h
 exact⟨by omega,by omega⟩
theorem Yk {fuel:Nat} {cs:List Value} {y:DataW H × List MemPlace} (h:DataW.trod enc Tryz.prog w 0 spare held fuel 9 cs=some y) (hw:Fp 9 y.1):∃s,cs=[.string s]∧Len s.size:=by
 obtain⟨s,rfl,rfl,_⟩:=DataW.trod_string Tryz.underlying9 h
 refine⟨s,rfl,?_⟩
 have:=hw s.data.toList.length (by simp[DataW.weights])
 rw[Array.length_toList] at this
 exact this
theorem Jd:Tryz.prog.cellsOf 9=1:=by kernel_rfl
theorem ao3:Tryz.prog.cellsOf 4=1:=by kernel_rfl
theorem abf:Tryz.prog.cellsOf 3=1:=by kernel_rfl
theorem alq:Tryz.prog.cellsOf 125=1:=by kernel_rfl
theorem ab8:Tryz.prog.cellsOf 129=1:=by kernel_rfl
theorem ao4:Tryz.prog.cellsOf 44=1:=by kernel_rfl
theorem akq:Tryz.prog.cellsOf 130=1:=by kernel_rfl
theorem Zh:Tryz.prog.cellsOf 57=1:=by kernel_rfl
theorem aq5:Tryz.prog.cellsOf 58=1:=by kernel_rfl
theorem alr:Tryz.prog.cellsOf 22=1:=by kernel_rfl
theorem aeo:Tryz.prog.cellsOf 179=2:=by kernel_rfl
theorem Zi:Tryz.prog.cellsOf 181=3:=by kernel_rfl
theorem Xf:Tryz.prog.cellsOf 127=3:=by kernel_rfl
theorem akr:Tryz.prog.cellsOf 132=4:=by kernel_rfl
theorem aep:Tryz.prog.cellsOf 60=5:=by kernel_rfl
theorem ao5:Tryz.prog.cellsOf 24=1:=by kernel_rfl
theorem ao6:Tryz.prog.bytesOf 179=24:=by kernel_rfl
theorem aer:Tryz.prog.bytesOf 181=32:=by kernel_rfl
theorem aks:Tryz.prog.bytesOf 9=16:=by kernel_rfl
theorem als:Tryz.prog.bytesOf 129=24:=by kernel_rfl
theorem abg:Tryz.prog.bytesOf 127=48:=by kernel_rfl
theorem auz:Tryz.prog.bytesOf 132=88:=by kernel_rfl
theorem ao7:Tryz.prog.bytesOf 60=112:=by kernel_rfl
theorem axi (n:Nat) (cs:List Value) (d:DataW H) (pl:List MemPlace) (h:DataW.trod enc Tryz.prog w 0 spare held n 179 cs=some (d,pl)) (hw:Fp 179 d):∃x:cu,jm 0 w cs x:=by
 obtain⟨ys,m,_,hx,hl,hyl,hf⟩:=DataW.trod_struct Tryz.underlying179 h
 rw[aeo] at hl
 obtain⟨c0,c1,rfl⟩:=awd hl
 obtain⟨y0,y1,rfl⟩:=awd (show ys.length=2 from hyl)
 have f0:DataW.trod enc Tryz.prog w 0 spare held m 9 (([c0,c1].drop 0).take (Tryz.prog.cellsOf 9))=some y0:=hf 0 _ rfl
 rw[Jd] at f0
 replace f0:DataW.trod enc Tryz.prog w 0 spare held m 9 [c0]=some y0:=f0
 have f1:DataW.trod enc Tryz.prog w 0 spare held m 4 (([c0,c1].drop 1).take (Tryz.prog.cellsOf 4))=some y1:=hf 1 _ rfl
 rw[ao3] at f1
 replace f1:DataW.trod enc Tryz.prog w 0 spare held m 4 [c1]=some y1:=f1
 simp only[Prod.mk.injEq] at hx
 obtain⟨rfl,rfl⟩:=hx
 unfold Fp at hw
 simp only[List.map_cons,List.map_nil,DataW.weights,Tryz.underlying179,DataW.weightsEach,List.append_nil,List.mem_append] at hw
 have w0:Fp 9 y0.1:=fun k hk=>hw k (Or.inl hk)
 have w1:Fp 4 y1.1:=fun k hk=>hw k (Or.inr (hk))
 obtain⟨s0,hc0,hs0⟩:=Yk f0 w0
 obtain rfl:c0=.string s0:=by simpa using hc0
 obtain⟨b1,hc1,_⟩:=DataW.trod_bool Tryz.underlying4 f1
 obtain rfl:c1=.bool b1:=by simpa using hc1
 exact⟨⟨s0,b1⟩,rfl,hs0⟩
theorem amm (n:Nat) (cs:List Value) (d:DataW H) (pl:List MemPlace) (h:DataW.trod enc Tryz.prog w 0 spare held n 181 cs=some (d,pl)) (hw:Fp 181 d):∃x:eu,jw 0 w cs x:=by
 obtain⟨ys,m,_,hx,hl,hyl,hf⟩:=DataW.trod_struct Tryz.underlying181 h
 rw[Zi] at hl
 obtain⟨c0,c1,c2,rfl⟩:=ahk hl
 obtain⟨y0,y1,y2,rfl⟩:=ahk (show ys.length=3 from hyl)
 have f0:DataW.trod enc Tryz.prog w 0 spare held m 3 (([c0,c1,c2].drop 0).take (Tryz.prog.cellsOf 3))=some y0:=hf 0 _ rfl
 rw[abf] at f0
 replace f0:DataW.trod enc Tryz.prog w 0 spare held m 3 [c0]=some y0:=f0
 have f1:DataW.trod enc Tryz.prog w 0 spare held m 3 (([c0,c1,c2].drop 1).take (Tryz.prog.cellsOf 3))=some y1:=hf 1 _ rfl
 rw[abf] at f1
 replace f1:DataW.trod enc Tryz.prog w 0 spare held m 3 [c1]=some y1:=f1
 have f2:DataW.trod enc Tryz.prog w 0 spare held m 9 (([c0,c1,c2].drop 2).take (Tryz.prog.cellsOf 9))=some y2:=hf 2 _ rfl
 rw[Jd] at f2
 replace f2:DataW.trod enc Tryz.prog w 0 spare held m 9 [c2]=some y2:=f2
 simp only[Prod.mk.injEq] at hx
 obtain⟨rfl,rfl⟩:=hx
 unfold Fp at hw
 simp only[List.map_cons,List.map_nil,DataW.weights,Tryz.underlying181,DataW.weightsEach,List.append_nil,List.mem_append] at hw
 have w0:Fp 3 y0.1:=fun k hk=>hw k (Or.inl hk)
 have w1:Fp 3 y1.1:=fun k hk=>hw k (Or.inr (Or.inl hk))
 have w2:Fp 9 y2.1:=fun k hk=>hw k (Or.inr (Or.inr (hk)))
 obtain⟨n0,hc0,_,hs0⟩:=DataW.trod_int Tryz.underlying3 f0
 obtain rfl:c0=.int .i64 n0:=by simpa using hc0
 obtain⟨n1,hc1,_,hs1⟩:=DataW.trod_int Tryz.underlying3 f1
 obtain rfl:c1=.int .i64 n1:=by simpa using hc1
 obtain⟨s2,hc2,hs2⟩:=Yk f2 w2
 obtain rfl:c2=.string s2:=by simpa using hc2
 exact⟨⟨n0,n1,s2⟩,rfl,hs2,akp hs0,akp hs1⟩
theorem akt (n:Nat) (cs:List Value) (d:DataW H) (pl:List MemPlace) (h:DataW.trod enc Tryz.prog w 0 spare held n 127 cs=some (d,pl)) (hw:Fp 127 d):∃x:gy,RVar 0 w cs x:=by
 obtain⟨ys,m,_,hx,hl,hyl,hf⟩:=DataW.trod_struct Tryz.underlying127 h
 rw[Xf] at hl
 obtain⟨c0,c1,c2,rfl⟩:=ahk hl
 obtain⟨y0,y1,y2,rfl⟩:=ahk (show ys.length=3 from hyl)
 have f0:DataW.trod enc Tryz.prog w 0 spare held m 9 (([c0,c1,c2].drop 0).take (Tryz.prog.cellsOf 9))=some y0:=hf 0 _ rfl
 rw[Jd] at f0
 replace f0:DataW.trod enc Tryz.prog w 0 spare held m 9 [c0]=some y0:=f0
 have f1:DataW.trod enc Tryz.prog w 0 spare held m 3 (([c0,c1,c2].drop 1).take (Tryz.prog.cellsOf 3))=some y1:=hf 1 _ rfl
 rw[abf] at f1
 replace f1:DataW.trod enc Tryz.prog w 0 spare held m 3 [c1]=some y1:=f1
 have f2:DataW.trod enc Tryz.prog w 0 spare held m 125 (([c0,c1,c2].drop 2).take (Tryz.prog.cellsOf 125))=some y2:=hf 2 _ rfl
 rw[alq] at f2
 replace f2:DataW.trod enc Tryz.prog w 0 spare held m 125 [c2]=some y2:=f2
 simp only[Prod.mk.injEq] at hx
 obtain⟨rfl,rfl⟩:=hx
 unfold Fp at hw
 simp only[List.map_cons,List.map_nil,DataW.weights,Tryz.underlying127,DataW.weightsEach,List.append_nil,List.mem_append] at hw
 have w0:Fp 9 y0.1:=fun k hk=>hw k (Or.inl hk)
 have w1:Fp 3 y1.1:=fun k hk=>hw k (Or.inr (Or.inl hk))
 have w2:Fp 125 y2.1:=fun k hk=>hw k (Or.inr (Or.inr (hk)))
 obtain⟨s0,hc0,hs0⟩:=Yk f0 w0
 obtain rfl:c0=.string s0:=by simpa using hc0
 obtain⟨n1,hc1,_,hs1⟩:=DataW.trod_int Tryz.underlying3 f1
 obtain rfl:c1=.int .i64 n1:=by simpa using hc1
 obtain⟨v2,l2,hv2,hs2⟩:=Ii (R:=jm) Tryz.underlying125 aeo ao6 (by decide) (by decide) (fun n cs d pl h hw=>axi n cs d pl h hw) f2 w2
 obtain rfl:c2=v2:=by simpa using hv2
 exact⟨⟨s0,n1,l2⟩,c2,rfl,hs0,akp hs1,hs2⟩
theorem au0 (n:Nat) (cs:List Value) (d:DataW H) (pl:List MemPlace) (h:DataW.trod enc Tryz.prog w 0 spare held n 9 cs=some (d,pl)) (hw:Fp 9 d):∃x:ByteArray,Cc 0 w cs x:=by
 obtain⟨s,rfl,hs⟩:=Yk h hw
 exact⟨s,rfl,hs⟩
theorem au1 (n:Nat) (cs:List Value) (d:DataW H) (pl:List MemPlace) (h:DataW.trod enc Tryz.prog w 0 spare held n 129 cs=some (d,pl)) (hw:Fp 129 d):∃x:List eu,yu 0 w cs x:=by
 obtain⟨v,l,rfl,hs⟩:=Ii (R:=jw) Tryz.underlying129 Zi aer (by decide) (by decide) (fun n cs d pl h hw=>amm n cs d pl h hw) h hw
 exact⟨l,v,rfl,hs⟩
theorem a1l (n:Nat) (cs:List Value) (d:DataW H) (pl:List MemPlace) (h:DataW.trod enc Tryz.prog w 0 spare held n 132 cs=some (d,pl)) (hw:Fp 132 d):∃x:qg,Dt 0 w cs x:=by
 obtain⟨ys,m,_,hx,hl,hyl,hf⟩:=DataW.trod_struct Tryz.underlying132 h
 rw[akr] at hl
 obtain⟨c0,c1,c2,c3,rfl⟩:=list4 hl
 obtain⟨y0,y1,y2,y3,rfl⟩:=list4 (show ys.length=4 from hyl)
 have f0:DataW.trod enc Tryz.prog w 0 spare held m 44 (([c0,c1,c2,c3].drop 0).take (Tryz.prog.cellsOf 44))=some y0:=hf 0 _ rfl
 rw[ao4] at f0
 replace f0:DataW.trod enc Tryz.prog w 0 spare held m 44 [c0]=some y0:=f0
 have f1:DataW.trod enc Tryz.prog w 0 spare held m 129 (([c0,c1,c2,c3].drop 1).take (Tryz.prog.cellsOf 129))=some y1:=hf 1 _ rfl
 rw[ab8] at f1
 replace f1:DataW.trod enc Tryz.prog w 0 spare held m 129 [c1]=some y1:=f1
 have f2:DataW.trod enc Tryz.prog w 0 spare held m 9 (([c0,c1,c2,c3].drop 2).take (Tryz.prog.cellsOf 9))=some y2:=hf 2 _ rfl
 rw[Jd] at f2
 replace f2:DataW.trod enc Tryz.prog w 0 spare held m 9 [c2]=some y2:=f2
 have f3:DataW.trod enc Tryz.prog w 0 spare held m 130 (([c0,c1,c2,c3].drop 3).take (Tryz.prog.cellsOf 130))=some y3:=hf 3 _ rfl
 rw[akq] at f3
 replace f3:DataW.trod enc Tryz.prog w 0 spare held m 130 [c3]=some y3:=f3
 simp only[Prod.mk.injEq] at hx
 obtain⟨rfl,rfl⟩:=hx
 unfold Fp at hw
 simp only[List.map_cons,List.map_nil,DataW.weights,Tryz.underlying132,DataW.weightsEach,List.append_nil,List.mem_append] at hw
 have w0:Fp 44 y0.1:=fun k hk=>hw k (Or.inl hk)
 have w1:Fp 129 y1.1:=fun k hk=>hw k (Or.inr (Or.inl hk))
 have w2:Fp 9 y2.1:=fun k hk=>hw k (Or.inr (Or.inr (Or.inl hk)))
 have w3:Fp 130 y3.1:=fun k hk=>hw k (Or.inr (Or.inr (Or.inr (hk))))
 obtain⟨v0,l0,hv0,hs0⟩:=Ii (R:=Cc) Tryz.underlying44 Jd aks (by decide) (by decide) (fun n cs d pl h hw=>au0 n cs d pl h hw) f0 w0
 obtain rfl:c0=v0:=by simpa using hv0
 obtain⟨v1,l1,hv1,hs1⟩:=Ii (R:=jw) Tryz.underlying129 Zi aer (by decide) (by decide) (fun n cs d pl h hw=>amm n cs d pl h hw) f1 w1
 obtain rfl:c1=v1:=by simpa using hv1
 obtain⟨s2,hc2,hs2⟩:=Yk f2 w2
 obtain rfl:c2=.string s2:=by simpa using hc2
 obtain⟨v3,l3,hv3,hs3⟩:=Ii (R:=yu) Tryz.underlying130 ab8 als (by decide) (by decide) (fun n cs d pl h hw=>au1 n cs d pl h hw) f3 w3
 obtain rfl:c3=v3:=by simpa using hv3
 exact⟨⟨l0,l1,s2,l3⟩,c0,c1,c3,rfl,hs2,hs0,hs1,hs3⟩
theorem axj (n:Nat) (cs:List Value) (d:DataW H) (pl:List MemPlace) (h:DataW.trod enc Tryz.prog w 0 spare held n 60 cs=some (d,pl)) (hw:Fp 60 d):∃x:ay,o7 0 w cs x:=by
 obtain⟨ys,m,_,hx,hl,hyl,hf⟩:=DataW.trod_struct Tryz.underlying60 h
 rw[aep] at hl
 obtain⟨c0,c1,c2,c3,c4,rfl⟩:=awe hl
 obtain⟨y0,y1,y2,y3,y4,rfl⟩:=awe (show ys.length=5 from hyl)
 have f0:DataW.trod enc Tryz.prog w 0 spare held m 9 (([c0,c1,c2,c3,c4].drop 0).take (Tryz.prog.cellsOf 9))=some y0:=hf 0 _ rfl
 rw[Jd] at f0
 replace f0:DataW.trod enc Tryz.prog w 0 spare held m 9 [c0]=some y0:=f0
 have f1:DataW.trod enc Tryz.prog w 0 spare held m 57 (([c0,c1,c2,c3,c4].drop 1).take (Tryz.prog.cellsOf 57))=some y1:=hf 1 _ rfl
 rw[Zh] at f1
 replace f1:DataW.trod enc Tryz.prog w 0 spare held m 57 [c1]=some y1:=f1
 have f2:DataW.trod enc Tryz.prog w 0 spare held m 57 (([c0,c1,c2,c3,c4].drop 2).take (Tryz.prog.cellsOf 57))=some y2:=hf 2 _ rfl
 rw[Zh] at f2
 replace f2:DataW.trod enc Tryz.prog w 0 spare held m 57 [c2]=some y2:=f2
 have f3:DataW.trod enc Tryz.prog w 0 spare held m 57 (([c0,c1,c2,c3,c4].drop 3).take (Tryz.prog.cellsOf 57))=some y3:=hf 3 _ rfl
 rw[Zh] at f3
 replace f3:DataW.trod enc Tryz.prog w 0 spare held m 57 [c3]=some y3:=f3
 have f4:DataW.trod enc Tryz.prog w 0 spare held m 58 (([c0,c1,c2,c3,c4].drop 4).take (Tryz.prog.cellsOf 58))=some y4:=hf 4 _ rfl
 rw[aq5] at f4
 replace f4:DataW.trod enc Tryz.prog w 0 spare held m 58 [c4]=some y4:=f4
 simp only[Prod.mk.injEq] at hx
 obtain⟨rfl,rfl⟩:=hx
 unfold Fp at hw
 simp only[List.map_cons,List.map_nil,DataW.weights,Tryz.underlying60,DataW.weightsEach,List.append_nil,List.mem_append] at hw
 have w0:Fp 9 y0.1:=fun k hk=>hw k (Or.inl hk)
 have w1:Fp 57 y1.1:=fun k hk=>hw k (Or.inr (Or.inl hk))
 have w2:Fp 57 y2.1:=fun k hk=>hw k (Or.inr (Or.inr (Or.inl hk)))
 have w3:Fp 57 y3.1:=fun k hk=>hw k (Or.inr (Or.inr (Or.inr (Or.inl hk))))
 have w4:Fp 58 y4.1:=fun k hk=>hw k (Or.inr (Or.inr (Or.inr (Or.inr (hk)))))
 obtain⟨s0,hc0,hs0⟩:=Yk f0 w0
 obtain rfl:c0=.string s0:=by simpa using hc0
 obtain⟨v1,l1,hv1,hs1⟩:=Ii (R:=RVar) Tryz.underlying57 Xf abg (by decide) (by decide) (fun n cs d pl h hw=>akt n cs d pl h hw) f1 w1
 obtain rfl:c1=v1:=by simpa using hv1
 obtain⟨v2,l2,hv2,hs2⟩:=Ii (R:=RVar) Tryz.underlying57 Xf abg (by decide) (by decide) (fun n cs d pl h hw=>akt n cs d pl h hw) f2 w2
 obtain rfl:c2=v2:=by simpa using hv2
 obtain⟨v3,l3,hv3,hs3⟩:=Ii (R:=RVar) Tryz.underlying57 Xf abg (by decide) (by decide) (fun n cs d pl h hw=>akt n cs d pl h hw) f3 w3
 obtain rfl:c3=v3:=by simpa using hv3
 obtain⟨v4,l4,hv4,hs4⟩:=Ii (R:=Dt) Tryz.underlying58 akr auz (by decide) (by decide) (fun n cs d pl h hw=>a1l n cs d pl h hw) f4 w4
 obtain rfl:c4=v4:=by simpa using hv4
 exact⟨⟨s0,l1,l2,l3,l4⟩,c1,c2,c3,c4,rfl,hs0,hs1,hs2,hs3,hs4⟩
end
end Go.Proofs.YtflcnhfakcgkeaaGreat
