import Derived.Test.YtlcgnbcgmljpaaaGreatMI15
import Derived.Test.YtlcgnbcgmljpaaaGreatMI12
import Derived.Test.YtlcgnbcgmljpaaaGreatM11
namespace Go.Proofs.YtlcgnbcgmljpaaaGreat
open Go.RowKit
set_option linter.unusedSimpArgs false
set_option linter.unusedVariables false
def Nh (Wm W0:World) (ks:List ak) (k:ak) (pb mb cb co:Nat) (a1 a2 a3 a4 a5 a6 iv:Value) (ins:List (Nat × Nat)) (known:List Int) (bb hb gb lo:Nat):BD:=⟨W0,ks,k,pb,mb,cb,co,a1,a2,a3,a4,a5,a6,iv,ins,known,bb,hb,gb,lo,Wm⟩
structure PE (Wm W0:World) (ks:List ak) (k:ak) (pb mb cb co:Nat) (a1 a2 a3 a4 a5 a6 iv:Value) (ins:List (Nat × Nat)) (known:List Int):Prop where
 cls:CA Wm cb co k a1 a2 a3 a4 a5 a6
 p0:W0.cell? ⟨pb,0,none⟩=some (.pointer (some ⟨cb,co,none⟩))
 p1:W0.cell? ⟨pb,1,none⟩=some (.map (some mb))
 p2:W0.cell? ⟨pb,2,none⟩=some iv
 map:Ba W0 mb (varsOf k).length (vk (varsOf k))
 inl:ins.length=k.insts.length
 insts:bf 2 16 ahv 0 W0 iv ins
 callee:∀j (h:j<ins.length) (h':j<k.insts.length),∃gi g cb co b1 n1 b2 n2,k.insts[j]=((gi:Nat):Int)∧ks[gi]?=some g∧W0.cell? ⟨ins[j].1,0,none⟩=some (.pointer (some ⟨cb,co,none⟩))∧W0.cell? ⟨cb,co+1,none⟩=some (.slice b1 g.ins.length n1)∧W0.cell? ⟨cb,co+2,none⟩=some (.slice b2 g.outs.length n2)∧W0.cell? ⟨ins[j].1,5,none⟩=some (.int .i64 (known.getD gi 0))∧(0<=known.getD gi 0∧known.getD gi 0<=400000)∧g.ins.length<=1000∧g.outs.length<=1000
 vl:(varsOf k).length<=1000
 old:Below Wm.heap.size Wm W0
theorem PE.be {Wm W0:World} {ks:List ak} {k:ak} {pb mb cb co:Nat} {a1 a2 a3 a4 a5 a6 iv:Value} {ins:List (Nat × Nat)} {known:List Int} (h:PE Wm W0 ks k pb mb cb co a1 a2 a3 a4 a5 a6 iv ins known) (hbl:k.body.length<=30000) {bb hb gb lo:Nat} (nb:W0.heap.size<=bb∧bb<lo) (nh:W0.heap.size<=hb∧hb<lo) (ng:W0.heap.size<=gb∧gb<lo) (bh:bb≠hb) (bg:bb≠gb) (hg:hb≠gb):BE (Nh Wm W0 ks k pb mb cb co a1 a2 a3 a4 a5 a6 iv ins known bb hb gb lo) :=
 ⟨h.cls,h.p0,h.p1,h.p2,h.map,h.inl,h.insts,h.callee,h.vl,hbl,nb,nh,ng,bh,bg,hg,h.old⟩
def Ls (ks:List ak) (k:ak) (known:List Int):Bool:=match yc ks k (k.body.length+1) k.body [] 0 with
 | some (t,[])=>decide (t.cost (lg k.insts known) 0<=400000)
 | _=>false
def F5 (n:Nat):Obj:=.cells (madeCells #[.int .i64 0] n) 3
theorem axf (k:ak) (q:Nat):cnt k [] q=0:=rfl
theorem aq0 (k:ak):Tt k []=madeCells #[.int .i64 0] (varsOf k).length:=by
 apply Array.ext_getElem?
 intro i
 by_cases hi:i<(varsOf k).length
 ·rw[X8 k [] i hi,axf]
  simp[madeCells,hi,Nat.mod_one]
 ·rw[Array.getElem?_eq_none (by rw[Vw];omega),Array.getElem?_eq_none (by rw[size_madeCells];omega)]
theorem aog (n:Nat):madeCells #[.int .i64 0] n=((List.replicate n (0:Int)).map (Value.int .i64)).toArray:=by
 apply Array.ext_getElem?
 intro i
 by_cases hi:i<n
 ·simp[madeCells,hi,Nat.mod_one]
 ·rw[Array.getElem?_eq_none (by rw[size_madeCells];omega),Array.getElem?_eq_none (by simp;omega)]
theorem Sv {w w5:World} (hb:Below w.heap.size w w5) (pb:Nat) (a b:Value):But [pb] w ((w5.setCell ⟨pb,4,none⟩ a).setCell ⟨pb,5,none⟩ b) :=
 ((But.of_below hb).Vu (p:=⟨pb,4,none⟩) (List.mem_singleton.2 rfl) a).Vu (p:=⟨pb,5,none⟩) (List.mem_singleton.2 rfl) b
theorem auq {ks:List ak} {k:ak} {pb mb cb co:Nat} {a1 a2 a3 a4 a5 a6 iv:Value} {ins:List (Nat × Nat)} {known:List Int} {Wm w:World} (h:PE Wm w ks k pb mb cb co a1 a2 a3 a4 a5 a6 iv ins known) (h3:k.body.length<=30000) (hb gb:Nat) (hh:(hb=w.heap.size∧gb=w.heap.size+1)∨(hb=w.heap.size+1∧gb=w.heap.size)) :
  BE (Nh Wm w ks k pb mb cb co a1 a2 a3 a4 a5 a6 iv ins known (w.heap.size+1+1) hb gb (w.heap.size+3))∧BS (Nh Wm w ks k pb mb cb co a1 a2 a3 a4 a5 a6 iv ins known (w.heap.size+1+1) hb gb (w.heap.size+3)) (((w.alloc (F5 (varsOf k).length)).alloc (F5 (varsOf k).length)).alloc (.cells #[.pointer (some ⟨pb,0,none⟩),.int .i64 0,.slice (some ⟨hb,0,none⟩) (varsOf k).length (varsOf k).length,.slice (some ⟨gb,0,none⟩) (varsOf k).length (varsOf k).length] 159)).drew [] 0∧Below w.heap.size w (((w.alloc (F5 (varsOf k).length)).alloc (F5 (varsOf k).length)).alloc (.cells #[.pointer (some ⟨pb,0,none⟩),.int .i64 0,.slice (some ⟨hb,0,none⟩) (varsOf k).length (varsOf k).length,.slice (some ⟨gb,0,none⟩) (varsOf k).length (varsOf k).length] 159)).drew:=by
 have hE:BE (Nh Wm w ks k pb mb cb co a1 a2 a3 a4 a5 a6 iv ins known (w.heap.size+1+1) hb gb (w.heap.size+3)):=h.be h3 (by omega) (by omega) (by omega) (by omega) (by omega) (by omega)
 have s1:(w.alloc (F5 (varsOf k).length)).heap.size=w.heap.size+1:=by simp
 have s2:((w.alloc (F5 (varsOf k).length)).alloc (F5 (varsOf k).length)).heap.size=w.heap.size+1+1:=by simp
 have k1:au (w.alloc (F5 (varsOf k).length)) w.heap.size 3 (madeCells #[.int .i64 0] (varsOf k).length):=jl w _ _
 have k2:=jl (w.alloc (F5 (varsOf k).length)) (madeCells #[.int .i64 0] (varsOf k).length) 3
 rw[s1] at k2
 have b2:Below (w.heap.size+1) (w.alloc (F5 (varsOf k).length)) ((w.alloc (F5 (varsOf k).length)).alloc (F5 (varsOf k).length)):=(Below.refl _ _).alloc (by omega) _
 have k1':au ((w.alloc (F5 (varsOf k).length)).alloc (F5 (varsOf k).length)) w.heap.size 3 (madeCells #[.int .i64 0] (varsOf k).length):=k1.below b2 (by omega)
 have hr:∀g,g=w.heap.size∨g=w.heap.size+1->au ((w.alloc (F5 (varsOf k).length)).alloc (F5 (varsOf k).length)) g 3 (madeCells #[.int .i64 0] (varsOf k).length):=fun g hg=>by
  rcases hg with rfl|rfl
  ·exact k1'
  ·exact k2
 have hrb:=hr hb (by omega)
 have hrg:=hr gb (by omega)
 have bw:Below w.heap.size w ((w.alloc (F5 (varsOf k).length)).alloc (F5 (varsOf k).length)):=((Below.refl _ _).alloc (Nat.le_refl _) _).alloc (by omega) _
 generalize (w.alloc (F5 (varsOf k).length)).alloc (F5 (varsOf k).length)=W at *
 have b3:Below W.heap.size W (W.alloc (.cells #[.pointer (some ⟨pb,0,none⟩),.int .i64 0,.slice (some ⟨hb,0,none⟩) (varsOf k).length (varsOf k).length,.slice (some ⟨gb,0,none⟩) (varsOf k).length (varsOf k).length] 159)).drew:=((Below.refl _ _).alloc (Nat.le_refl _) _).drew
 have k3:au (W.alloc (.cells #[.pointer (some ⟨pb,0,none⟩),.int .i64 0,.slice (some ⟨hb,0,none⟩) (varsOf k).length (varsOf k).length,.slice (some ⟨gb,0,none⟩) (varsOf k).length (varsOf k).length] 159)).drew W.heap.size 159 #[.pointer (some ⟨pb,0,none⟩),.int .i64 0,.slice (some ⟨hb,0,none⟩) (varsOf k).length (varsOf k).length,.slice (some ⟨gb,0,none⟩) (varsOf k).length (varsOf k).length]:=jl W _ _
 have bw3:=bw.trans (b3.mono bw.size)
 have hlt:=k3.lt
 rw[s2] at k3 hlt
 refine⟨hE,⟨bw3,by show w.heap.size+3<=_;omega,Nat.zero_le _,k3,?_,List.replicate (varsOf k).length 0,by simp[Nh],?_,?_⟩,bw3⟩
 ·rw[show Tt (Nh Wm w ks k pb mb cb co a1 a2 a3 a4 a5 a6 iv ins known (w.heap.size+1+1) hb gb (w.heap.size+3)).k []=madeCells #[.int .i64 0] (varsOf k).length from aq0 k]
  exact hrb.below b3 hrb.lt
 ·intro x hx
  have:=List.eq_of_mem_replicate hx
  omega
 ·rw[←aog]
  exact hrg.below b3 hrg.lt
def ap1 (Wm:World) (ks:List ak) (k:ak) (pb mb cb co:Nat) (a1 a2 a3 a4 a5 a6 iv fv:Value) (ins:List (Nat × Nat)) (known:List Int) (room:Int) (w:World) (R:Bool) (o:Option (PL × List dh)) (e:Ending) (w':World):Prop :=
 e=.returned (.bool R)∧But [pb] w w'∧(R=true->∃t bv nodes bb hb gb lo,o=some (t,[])∧au w' pb 98 #[.pointer (some ⟨cb,co,none⟩),.map (some mb),iv,fv,bv,.int .i64 (t.cost (lg k.insts known) 0),.int .i64 room]∧(bf 1 16 U9 0 w' bv nodes∧∀b,bv.ownBlock=some b->New w.heap.size w'.heap.size b)∧jg (Nh Wm w ks k pb mb cb co a1 a2 a3 a4 a5 a6 iv ins known bb hb gb lo) (New w.heap.size w'.heap.size) w' t nodes)
set_option maxRecDepth 20000 in
set_option maxHeartbeats 4000000 in
theorem asb (Wm:World) (ks:List ak) (k:ak) (pb mb cb co:Nat) (a1 a2 a3 a4 a5 a6 iv fv:Value) (ins:List (Nat × Nat)) (known:List Int) (room:Int) (w:World) (h:PE Wm w ks k pb mb cb co a1 a2 a3 a4 a5 a6 iv ins known) (hkb:∀x,x∈known->0<=x∧x<=400001)
  (hpl:au w pb 98 #[.pointer (some ⟨cb,co,none⟩),.map (some mb),iv,fv,.slice none 0 0,.int .i64 0,.int .i64 room]) (hcp:cb≠pb) :
  Calls Tryz.prog 82 #[.pointer (some ⟨pb,0,none⟩)] w (ap1 Wm ks k pb mb cb co a1 a2 a3 a4 a5 a6 iv fv ins known room w (decide (k.body.length<=30000)&&Ls ks k known) (yc ks k (k.body.length+1) k.body [] 0)):=by
 have p0:=h.p0
 have p1:=h.p1
 have lp:=hpl.lt
 have hcls:=h.cls.stays h.old
 obtain⟨ba,bc,hba⟩:=hcls.body.shape
 have hbl:=hcls.body.Fz
 have c6:=hcls.c6
 rw[hba] at c6
 have lc:=hcls.lt
 clear hcls
 clear hba
 have hvl:=h.vl
 have HP:=hide h
 have HPL:=hide hpl
 by_cases h3:k.body.length<=30000
 case neg =>
  have e1:decide (30000<(k.body.length:Int))=true:=decide_eq_true (by omega)
  rw[decide_eq_false h3,Bool.false_and]
  clear h hpl hkb HP HPL h3
  go_enter Tryz.func82,Tryz.ntmps82
  go_wp2
  go_ret
  exact⟨rfl,But.refl _ _,fun h=>by cases h⟩
 have e1:decide (30000<(k.body.length:Int))=false:=decide_eq_false (by omega)
 rw[decide_eq_true h3,Bool.true_and]
 have hml:∀ty,(Builtin.len_ #[93] ty #[.map (some mb)]).run Tryz.prog w.drew=.ok (.int .i64 ((varsOf k).length:Int)) w.drew:=fun ty=>Bv.len (w:=w.drew) (h.map.block rfl) Tryz.underlying93 ty
 have hA:Below w.heap.size w (w.alloc (F5 (varsOf k).length)).drew:=((Below.refl _ _).alloc (Nat.le_refl _) _).drew
 have a0s:∀ty,(Builtin.len_ #[93] ty #[.map (some mb)]).run Tryz.prog (w.alloc (F5 (varsOf k).length)).drew=.ok (.int .i64 ((varsOf k).length:Int)) (w.alloc (F5 (varsOf k).length)).drew:=fun ty=>(h.map.below hA h.map.lt).len Tryz.underlying93 ty
 have q1:(w.alloc (F5 (varsOf k).length)).drew.cell? ⟨pb,1,none⟩=some (.map (some mb)):=(hA.cell (p:=⟨pb,1,none⟩) lp).trans p1
 have hmk:∀w:World,(Instr.makeSlice 41 (.int .i64 ((varsOf k).length:Int)) (.int .i64 ((varsOf k).length:Int))).run Tryz.prog w=.ok (.slice (some ⟨w.heap.size,0,none⟩) (varsOf k).length (varsOf k).length) (w.alloc (F5 (varsOf k).length)):=fun w=>by
  have h9:=Hf (P:=Tryz.prog) 41 3 (.int .i64 0) 1 8 Tryz.underlying41 (by kernel_rfl) (varsOf k).length (by omega) (by omega) w
  rw[Nat.mul_one] at h9
  exact h9
 have HKK:Hid (∀s,0<=lg k.insts known s∧lg k.insts known s<=400001):=fun s=>Pz known 400001 (by omega) hkb _
 have HKB:=hide hkb
 have HST:=hide (fun hb gb hh=>auq h h3 hb gb hh)
 have Hg:Hid (Ls ks k known=match yc ks k (k.body.length+1) k.body [] 0 with
  | some (t,[])=>decide (t.cost (lg k.insts known) 0<=400000)
  | _=>false):=rfl
 have HLO:Hid (∀X:BD,X.ks=ks->X.k=k->X.known=known->BE X->∀w3,BS X w3 [] 0->Calls Tryz.prog 112 #[.pointer (some ⟨X.bb,0,none⟩),.int .i64 0] w3 (abv X [] w3 (yc ks k (k.body.length+1) k.body [] 0))):=fun X e1 e2 e3 hE w3 hS=>by
  have h9:=axe X hE (by rw[e3];exact hkb) (k.body.length+1) [] 0 0 w3 hS (by rw[e2];omega) (by omega) (by omega) (by simp)
  rw[e1,e2] at h9
  exact h9
 clear hA h hpl HP hkb
 generalize Ls ks k known=R at *
 generalize yc ks k (k.body.length+1) k.body [] 0=o at *
 generalize hz:F5 (varsOf k).length=Z at *
 go_enter Tryz.func82,Tryz.ntmps82
 go_wp2_with fail
 go_region
 ·obtain⟨hE,hS,hbw⟩:=uh HST (w.heap.size) (w.heap.size+1) (Or.inl ⟨rfl,rfl⟩)
  have HL:Hid (Calls Tryz.prog 112 #[.pointer (some ⟨w.heap.size+1+1,0,none⟩),.int .i64 0] _ (abv (Nh Wm w ks k pb mb cb co a1 a2 a3 a4 a5 a6 iv ins known (w.heap.size+1+1) (w.heap.size) (w.heap.size+1) (w.heap.size+3)) [] _ o)):=uh HLO (Nh Wm w ks k pb mb cb co a1 a2 a3 a4 a5 a6 iv ins known (w.heap.size+1+1) (w.heap.size) (w.heap.size+1) (w.heap.size+3)) rfl rfl rfl hE _ hS
  have HE:=hide hE
  have Bj:=hide hbw
  clear hE hS hbw HST hml a0s q1 hmk
  generalize (((w.alloc Z).alloc Z).alloc (.cells #[.pointer (some ⟨pb,0,none⟩),.int .i64 0,.slice (some ⟨w.heap.size,0,none⟩) (varsOf k).length (varsOf k).length,.slice (some ⟨w.heap.size+1,0,none⟩) (varsOf k).length (varsOf k).length] 159)).drew=w3 at *
  have Yy:Hid (∀w4,Below w.heap.size w w4->au w4 pb 98 #[.pointer (some ⟨cb,co,none⟩),.map (some mb),iv,fv,.slice none 0 0,.int .i64 0,.int .i64 room]):=fun w4 hb=>(uh HPL).below hb lp
  have HMO:Hid (∀t v nodes w4 P,bf 1 16 U9 0 w4 v nodes->jg (Nh Wm w ks k pb mb cb co a1 a2 a3 a4 a5 a6 iv ins known (w.heap.size+1+1) (w.heap.size) (w.heap.size+1) (w.heap.size+3)) P w4 t nodes->Calls Tryz.prog 113 #[v] w4 (Ans (.int .i64 (t.cost (lg k.insts known) 0)) w4)):=fun t v nodes w4 P h1 h2=>X9 (Nh Wm w ks k pb mb cb co a1 a2 a3 a4 a5 a6 iv ins known (w.heap.size+1+1) (w.heap.size) (w.heap.size+1) (w.heap.size+3)) P 0 t v nodes w4 h1 h2 (uh HKK)
  have HB3:Hid (Below w.heap.size w w3):=uh Bj
  clear Bj
  cases o with
  | none =>
   have e:R=false:=uh Hg
   subst e
   go_wp2_with fail
   refine(uh HL).mono ?_
   rintro e w4 ⟨rfl,hb4⟩
   have ajo:Below w.heap.size w w4:=hb4
   have HM:=hide (uh HMO .nil (.slice none 0 0) [] w4 (fun _=>True) ⟨none,0,rfl,⟨by simp[Len],Nat.le_refl _⟩,by simp[Len],fun i hi=>absurd hi (Nat.not_lt_zero _)⟩ rfl)
   have HB4:=hide ajo
   clear hb4 ajo
   go_wp2_with fail
   refine(uh HM).mono ?_
   rintro e w5 ⟨rfl,hb5⟩
   have Nj:Below w.heap.size w w5:=(uh HB4).trans (hb5.mono (uh HB4).size)
   have hk5:=uh Yy w5 Nj
   have x4:=hk5.cell (i:=4) (v:=.slice none 0 0) rfl
   have x5:=hk5.cell (i:=5) (v:=.int .i64 0) rfl
   have z4:=hk5.free 4
   have z5:=hk5.free 5
   have zo:=hide Nj
   clear hb5 Nj hk5 Yy
   simp only[PL.cost]
   go_wp2_with fail
   go_quiet ((fail))
   go_wp2
   go_ret
   exact⟨rfl,(Sv (uh zo) pb _ _).trans (But.of_below (jw _ _)),fun h=>by cases h⟩
  | some qq =>
   obtain⟨t,rest⟩:=qq
   go_wp2_with fail
   refine(uh HL).mono ?_
   rintro e w4 ⟨v,nodes,rfl,⟨hv,hvb⟩,hn,hbs,hbt,hrest⟩
   have HM:=hide (uh HMO t v nodes w4 _ hv hn)
   have HV:=hide hv
   have HN:=hide hn
   have hb4:Below w.heap.size w w4:=hbs.old
   have HB4:=hide hb4
   have Me:=hide hbs
   obtain⟨va,vc,rfl⟩:=hv.shape
   have Kr:Hid (w3.heap.size<=w4.heap.size):=hbt.size
   have HVB:=hide hvb
   have HRL:Hid (rest.length<=k.body.length):=by
    have h9:rest.length=(k.body.drop (k.body.length-rest.length)).length:=congrArg List.length hrest
    rw[List.length_drop] at h9
    refine hide ?_
    omega
   clear hv hvb hn hbs hbt hb4 hrest
   go_wp2_with fail
   refine(uh HM).mono ?_
   rintro e w5 ⟨rfl,hb5⟩
   have Nj:Below w.heap.size w w5:=(uh HB4).trans (hb5.mono (uh HB4).size)
   have hk5:=uh Yy w5 Nj
   have x4:=hk5.cell (i:=4) (v:=.slice none 0 0) rfl
   have x5:=hk5.cell (i:=5) (v:=.int .i64 0) rfl
   have z4:=hk5.free 4
   have z5:=hk5.free 5
   have zo:=hide Nj
   have aur:=hide hb5
   have Xn:=hide hk5
   have hcc:=Rq _ (uh HKK) t 0 (by omega) (by omega)
   have hS5:=(uh Me).stays hb5
   have hC5:=hS5.cells (uh HE)
   have y1:w5.cell? ⟨w.heap.size+1+1,1,none⟩=some (.int .i64 ((k.body.length-rest.length:Nat):Int)):=hC5.b1
   have y6:w5.cell? ⟨cb,co+6,none⟩=some (.slice ba k.body.length bc):=by rw[Nj.cell (p:=⟨cb,_,none⟩) lc];exact c6
   have HRT:Hid (R=true->∃t' bv nodes' bb hb gb lo,some (t,rest)=some (t',[])∧au ((w5.setCell ⟨pb,4,none⟩ (.slice va nodes.length vc)).setCell ⟨pb,5,none⟩ (.int .i64 (t.cost (lg k.insts known) 0))) pb 98 #[.pointer (some ⟨cb,co,none⟩),.map (some mb),iv,fv,bv,.int .i64 (t'.cost (lg k.insts known) 0),.int .i64 room]∧(bf 1 16 U9 0 ((w5.setCell ⟨pb,4,none⟩ (.slice va nodes.length vc)).setCell ⟨pb,5,none⟩ (.int .i64 (t.cost (lg k.insts known) 0))) bv nodes'∧∀b,bv.ownBlock=some b->New w.heap.size ((w5.setCell ⟨pb,4,none⟩ (.slice va nodes.length vc)).setCell ⟨pb,5,none⟩ (.int .i64 (t.cost (lg k.insts known) 0))).heap.size b)∧jg (Nh Wm w ks k pb mb cb co a1 a2 a3 a4 a5 a6 iv ins known bb hb gb lo) (New w.heap.size ((w5.setCell ⟨pb,4,none⟩ (.slice va nodes.length vc)).setCell ⟨pb,5,none⟩ (.int .i64 (t.cost (lg k.insts known) 0))).heap.size) ((w5.setCell ⟨pb,4,none⟩ (.slice va nodes.length vc)).setCell ⟨pb,5,none⟩ (.int .i64 (t.cost (lg k.insts known) 0))) t' nodes'):=fun hr=>by
    have hrest:rest=[]:=by
     cases rest with
     | nil=>rfl
     | cons r rs=>rw[hr] at Hg;have h9:true=false:=uh Hg;cases h9
    have hk:Ae (New w3.heap.size w4.heap.size) w4 ((w5.setCell ⟨pb,4,none⟩ (.slice va nodes.length vc)).setCell ⟨pb,5,none⟩ (.int .i64 (t.cost (lg k.insts known) 0))):=(Ae.of_below (uh aur)).trans ((Sv (Below.refl _ w5) pb _ _).o8 (fun q hq h=>by rw[List.mem_singleton] at hq;subst hq;have:=h.1;have:=(uh HB3).size;omega))
    refine⟨t,.slice va nodes.length vc,nodes,w.heap.size+1+1,w.heap.size,w.heap.size+1,w.heap.size+3,by rw[hrest],?_,⟨(uh HV).o8 Px hk (uh HVB),fun b hb=>⟨Nat.le_trans (uh HB3).size (uh HVB b hb).1,Nat.lt_of_lt_of_le (uh HVB b hb).2 hk.1⟩⟩,jg.mono (fun b h=>⟨Nat.le_trans (uh HB3).size h.1,Nat.lt_of_lt_of_le h.2 hk.1⟩) _ _ (jg.o8 hk _ _ (uh HN))⟩
    have h9:=((uh Xn).set 4 (.slice va nodes.length vc)).set 5 (.int .i64 (t.cost (lg k.insts known) 0))
    exact h9
   have vg:Hid (But [pb] w ((w5.setCell ⟨pb,4,none⟩ (.slice va nodes.length vc)).setCell ⟨pb,5,none⟩ (.int .i64 (t.cost (lg k.insts known) 0)))):=Sv (uh zo) pb _ _
   have hK6:au ((w5.setCell ⟨pb,4,none⟩ (.slice va nodes.length vc)).setCell ⟨pb,5,none⟩ (.int .i64 (t.cost (lg k.insts known) 0))) pb 98 #[.pointer (some ⟨cb,co,none⟩),.map (some mb),iv,fv,.slice va nodes.length vc,.int .i64 (t.cost (lg k.insts known) 0),.int .i64 room]:=((uh Xn).set 4 (.slice va nodes.length vc)).set 5 (.int .i64 (t.cost (lg k.insts known) 0))
   have f0:=hK6.cell (i:=0) (v:=.pointer (some ⟨cb,co,none⟩)) rfl
   have f5:=hK6.cell (i:=5) (v:=.int .i64 (t.cost (lg k.insts known) 0)) rfl
   have f1:((w5.setCell ⟨pb,4,none⟩ (.slice va nodes.length vc)).setCell ⟨pb,5,none⟩ (.int .i64 (t.cost (lg k.insts known) 0))).cell? ⟨w.heap.size+1+1,1,none⟩=some (.int .i64 ((k.body.length-rest.length:Nat):Int)):=by
    rw[←y1]
    exact World.cell?_of_block (w:=w5) (((Below.heap_setCell _ _ _ _ (by show w.heap.size+1+1≠pb;omega)).trans (Below.heap_setCell _ _ _ _ (by show w.heap.size+1+1≠pb;omega))))
   have f6:((w5.setCell ⟨pb,4,none⟩ (.slice va nodes.length vc)).setCell ⟨pb,5,none⟩ (.int .i64 (t.cost (lg k.insts known) 0))).cell? ⟨cb,co+6,none⟩=some (.slice ba k.body.length bc):=by
    rw[←y6]
    exact World.cell?_of_block (w:=w5) (((Below.heap_setCell _ _ _ _ (by show cb≠pb;exact hcp)).trans (Below.heap_setCell _ _ _ _ (by show cb≠pb;exact hcp))))
   clear y1 y6 hS5 hC5 hK6 hk5 hb5 Nj Yy
   generalize ajp:t.cost (lg k.insts known) 0=cst at *
   have HCS:=hide ajp
   clear ajp
   go_wp2_with fail
   generalize (w5.setCell ⟨pb,4,none⟩ (.slice va nodes.length vc)).setCell ⟨pb,5,none⟩ (.int .i64 cst)=w6 at *
   clear x4 x5 z4 z5
   cases rest with
   | nil =>
    have e7:((k.body.length:Int) == (k.body.length:Int))=true:=by simp
    rw[List.length_nil,Nat.sub_zero] at f1
    by_cases hc4:cst<=400000
    ·have e8:decide (cst<=400000)=true:=decide_eq_true hc4
     have HF:Hid (R=true):=(uh Hg).trans (by show decide (t.cost (lg k.insts known) 0<=400000)=true;rw[uh HCS];exact e8)
     go_quiet ((fail))
     go_wp2
     go_ret
     rw[uh HF]
     refine⟨rfl,(uh vg).trans (But.of_below (jw _ _)),fun _=>?_⟩
     obtain⟨t',bv,nodes',bb,hb,gb,lo,g1,g2,g3,g4⟩:=uh HRT (uh HF)
     exact⟨t',bv,nodes',bb,hb,gb,lo,g1,g2,g3,jg.o8 (Ae.of_below (jw w6 nq)) _ _ g4⟩
    ·have e8:decide (cst<=400000)=false:=decide_eq_false hc4
     have HF:Hid (R=false):=(uh Hg).trans (by show decide (t.cost (lg k.insts known) 0<=400000)=false;rw[uh HCS];exact e8)
     go_quiet ((fail))
     go_wp2
     go_ret
     rw[uh HF]
     exact⟨rfl,(uh vg).trans (But.of_below (jw _ _)),fun h=>by cases h⟩
   | cons r rs =>
    have aus:=(uh Me).nxl
    have e7:(((k.body.length-(r::rs).length:Nat):Int) == (k.body.length:Int))=false:=by
     rw[beq_eq_false_iff_ne,List.length_cons]
     have:=uh HRL
     rw[List.length_cons] at this
     omega
    have e7n:((k.body.length-(r::rs).length) == k.body.length)=false:=by
     rw[beq_eq_false_iff_ne,List.length_cons]
     have:=uh HRL
     rw[List.length_cons] at this
     omega
    have HF:Hid (R=false):=uh Hg
    generalize k.body.length-(r::rs).length=nn at *
    clear aus
    go_quiet ((fail))
    go_wp2
    go_ret
    rw[uh HF]
    exact⟨rfl,(uh vg).trans (But.of_below (jw _ _)),fun h=>by cases h⟩
 ·obtain⟨hE,hS,hbw⟩:=uh HST (w.heap.size+1) (w.heap.size) (Or.inr ⟨rfl,rfl⟩)
  have HL:Hid (Calls Tryz.prog 112 #[.pointer (some ⟨w.heap.size+1+1,0,none⟩),.int .i64 0] _ (abv (Nh Wm w ks k pb mb cb co a1 a2 a3 a4 a5 a6 iv ins known (w.heap.size+1+1) (w.heap.size+1) (w.heap.size) (w.heap.size+3)) [] _ o)):=uh HLO (Nh Wm w ks k pb mb cb co a1 a2 a3 a4 a5 a6 iv ins known (w.heap.size+1+1) (w.heap.size+1) (w.heap.size) (w.heap.size+3)) rfl rfl rfl hE _ hS
  have HE:=hide hE
  have Bj:=hide hbw
  clear hE hS hbw HST hml a0s q1 hmk
  generalize (((w.alloc Z).alloc Z).alloc (.cells #[.pointer (some ⟨pb,0,none⟩),.int .i64 0,.slice (some ⟨w.heap.size+1,0,none⟩) (varsOf k).length (varsOf k).length,.slice (some ⟨w.heap.size,0,none⟩) (varsOf k).length (varsOf k).length] 159)).drew=w3 at *
  have Yy:Hid (∀w4,Below w.heap.size w w4->au w4 pb 98 #[.pointer (some ⟨cb,co,none⟩),.map (some mb),iv,fv,.slice none 0 0,.int .i64 0,.int .i64 room]):=fun w4 hb=>(uh HPL).below hb lp
  have HMO:Hid (∀t v nodes w4 P,bf 1 16 U9 0 w4 v nodes->jg (Nh Wm w ks k pb mb cb co a1 a2 a3 a4 a5 a6 iv ins known (w.heap.size+1+1) (w.heap.size+1) (w.heap.size) (w.heap.size+3)) P w4 t nodes->Calls Tryz.prog 113 #[v] w4 (Ans (.int .i64 (t.cost (lg k.insts known) 0)) w4)):=fun t v nodes w4 P h1 h2=>X9 (Nh Wm w ks k pb mb cb co a1 a2 a3 a4 a5 a6 iv ins known (w.heap.size+1+1) (w.heap.size+1) (w.heap.size) (w.heap.size+3)) P 0 t v nodes w4 h1 h2 (uh HKK)
  have HB3:Hid (Below w.heap.size w w3):=uh Bj
  clear Bj
  cases o with
  | none =>
   have e:R=false:=uh Hg
   subst e
   go_wp2_with fail
   refine(uh HL).mono ?_
   rintro e w4 ⟨rfl,hb4⟩
   have ajo:Below w.heap.size w w4:=hb4
   have HM:=hide (uh HMO .nil (.slice none 0 0) [] w4 (fun _=>True) ⟨none,0,rfl,⟨by simp[Len],Nat.le_refl _⟩,by simp[Len],fun i hi=>absurd hi (Nat.not_lt_zero _)⟩ rfl)
   have HB4:=hide ajo
   clear hb4 ajo
   go_wp2_with fail
   refine(uh HM).mono ?_
   rintro e w5 ⟨rfl,hb5⟩
   have Nj:Below w.heap.size w w5:=(uh HB4).trans (hb5.mono (uh HB4).size)
   have hk5:=uh Yy w5 Nj
   have x4:=hk5.cell (i:=4) (v:=.slice none 0 0) rfl
   have x5:=hk5.cell (i:=5) (v:=.int .i64 0) rfl
   have z4:=hk5.free 4
   have z5:=hk5.free 5
   have zo:=hide Nj
   clear hb5 Nj hk5 Yy
   simp only[PL.cost]
   go_wp2_with fail
   go_quiet ((fail))
   go_wp2
   go_ret
   exact⟨rfl,(Sv (uh zo) pb _ _).trans (But.of_below (jw _ _)),fun h=>by cases h⟩
  | some qq =>
   obtain⟨t,rest⟩:=qq
   go_wp2_with fail
   refine(uh HL).mono ?_
   rintro e w4 ⟨v,nodes,rfl,⟨hv,hvb⟩,hn,hbs,hbt,hrest⟩
   have HM:=hide (uh HMO t v nodes w4 _ hv hn)
   have HV:=hide hv
   have HN:=hide hn
   have hb4:Below w.heap.size w w4:=hbs.old
   have HB4:=hide hb4
   have Me:=hide hbs
   obtain⟨va,vc,rfl⟩:=hv.shape
   have Kr:Hid (w3.heap.size<=w4.heap.size):=hbt.size
   have HVB:=hide hvb
   have HRL:Hid (rest.length<=k.body.length):=by
    have h9:rest.length=(k.body.drop (k.body.length-rest.length)).length:=congrArg List.length hrest
    rw[List.length_drop] at h9
    refine hide ?_
    omega
   clear hv hvb hn hbs hbt hb4 hrest
   go_wp2_with fail
   refine(uh HM).mono ?_
   rintro e w5 ⟨rfl,hb5⟩
   have Nj:Below w.heap.size w w5:=(uh HB4).trans (hb5.mono (uh HB4).size)
   have hk5:=uh Yy w5 Nj
   have x4:=hk5.cell (i:=4) (v:=.slice none 0 0) rfl
   have x5:=hk5.cell (i:=5) (v:=.int .i64 0) rfl
   have z4:=hk5.free 4
   have z5:=hk5.free 5
   have zo:=hide Nj
   have aur:=hide hb5
   have Xn:=hide hk5
   have hcc:=Rq _ (uh HKK) t 0 (by omega) (by omega)
   have hS5:=(uh Me).stays hb5
   have hC5:=hS5.cells (uh HE)
   have y1:w5.cell? ⟨w.heap.size+1+1,1,none⟩=some (.int .i64 ((k.body.length-rest.length:Nat):Int)):=hC5.b1
   have y6:w5.cell? ⟨cb,co+6,none⟩=some (.slice ba k.body.length bc):=by rw[Nj.cell (p:=⟨cb,_,none⟩) lc];exact c6
   have HRT:Hid (R=true->∃t' bv nodes' bb hb gb lo,some (t,rest)=some (t',[])∧au ((w5.setCell ⟨pb,4,none⟩ (.slice va nodes.length vc)).setCell ⟨pb,5,none⟩ (.int .i64 (t.cost (lg k.insts known) 0))) pb 98 #[.pointer (some ⟨cb,co,none⟩),.map (some mb),iv,fv,bv,.int .i64 (t'.cost (lg k.insts known) 0),.int .i64 room]∧(bf 1 16 U9 0 ((w5.setCell ⟨pb,4,none⟩ (.slice va nodes.length vc)).setCell ⟨pb,5,none⟩ (.int .i64 (t.cost (lg k.insts known) 0))) bv nodes'∧∀b,bv.ownBlock=some b->New w.heap.size ((w5.setCell ⟨pb,4,none⟩ (.slice va nodes.length vc)).setCell ⟨pb,5,none⟩ (.int .i64 (t.cost (lg k.insts known) 0))).heap.size b)∧jg (Nh Wm w ks k pb mb cb co a1 a2 a3 a4 a5 a6 iv ins known bb hb gb lo) (New w.heap.size ((w5.setCell ⟨pb,4,none⟩ (.slice va nodes.length vc)).setCell ⟨pb,5,none⟩ (.int .i64 (t.cost (lg k.insts known) 0))).heap.size) ((w5.setCell ⟨pb,4,none⟩ (.slice va nodes.length vc)).setCell ⟨pb,5,none⟩ (.int .i64 (t.cost (lg k.insts known) 0))) t' nodes'):=fun hr=>by
    have hrest:rest=[]:=by
     cases rest with
     | nil=>rfl
     | cons r rs=>rw[hr] at Hg;have h9:true=false:=uh Hg;cases h9
    have hk:Ae (New w3.heap.size w4.heap.size) w4 ((w5.setCell ⟨pb,4,none⟩ (.slice va nodes.length vc)).setCell ⟨pb,5,none⟩ (.int .i64 (t.cost (lg k.insts known) 0))):=(Ae.of_below (uh aur)).trans ((Sv (Below.refl _ w5) pb _ _).o8 (fun q hq h=>by rw[List.mem_singleton] at hq;subst hq;have:=h.1;have:=(uh HB3).size;omega))
    refine⟨t,.slice va nodes.length vc,nodes,w.heap.size+1+1,w.heap.size+1,w.heap.size,w.heap.size+3,by rw[hrest],?_,⟨(uh HV).o8 Px hk (uh HVB),fun b hb=>⟨Nat.le_trans (uh HB3).size (uh HVB b hb).1,Nat.lt_of_lt_of_le (uh HVB b hb).2 hk.1⟩⟩,jg.mono (fun b h=>⟨Nat.le_trans (uh HB3).size h.1,Nat.lt_of_lt_of_le h.2 hk.1⟩) _ _ (jg.o8 hk _ _ (uh HN))⟩
    have h9:=((uh Xn).set 4 (.slice va nodes.length vc)).set 5 (.int .i64 (t.cost (lg k.insts known) 0))
    exact h9
   have vg:Hid (But [pb] w ((w5.setCell ⟨pb,4,none⟩ (.slice va nodes.length vc)).setCell ⟨pb,5,none⟩ (.int .i64 (t.cost (lg k.insts known) 0)))):=Sv (uh zo) pb _ _
   have hK6:au ((w5.setCell ⟨pb,4,none⟩ (.slice va nodes.length vc)).setCell ⟨pb,5,none⟩ (.int .i64 (t.cost (lg k.insts known) 0))) pb 98 #[.pointer (some ⟨cb,co,none⟩),.map (some mb),iv,fv,.slice va nodes.length vc,.int .i64 (t.cost (lg k.insts known) 0),.int .i64 room]:=((uh Xn).set 4 (.slice va nodes.length vc)).set 5 (.int .i64 (t.cost (lg k.insts known) 0))
   have f0:=hK6.cell (i:=0) (v:=.pointer (some ⟨cb,co,none⟩)) rfl
   have f5:=hK6.cell (i:=5) (v:=.int .i64 (t.cost (lg k.insts known) 0)) rfl
   have f1:((w5.setCell ⟨pb,4,none⟩ (.slice va nodes.length vc)).setCell ⟨pb,5,none⟩ (.int .i64 (t.cost (lg k.insts known) 0))).cell? ⟨w.heap.size+1+1,1,none⟩=some (.int .i64 ((k.body.length-rest.length:Nat):Int)):=by
    rw[←y1]
    exact World.cell?_of_block (w:=w5) (((Below.heap_setCell _ _ _ _ (by show w.heap.size+1+1≠pb;omega)).trans (Below.heap_setCell _ _ _ _ (by show w.heap.size+1+1≠pb;omega))))
   have f6:((w5.setCell ⟨pb,4,none⟩ (.slice va nodes.length vc)).setCell ⟨pb,5,none⟩ (.int .i64 (t.cost (lg k.insts known) 0))).cell? ⟨cb,co+6,none⟩=some (.slice ba k.body.length bc):=by
    rw[←y6]
    exact World.cell?_of_block (w:=w5) (((Below.heap_setCell _ _ _ _ (by show cb≠pb;exact hcp)).trans (Below.heap_setCell _ _ _ _ (by show cb≠pb;exact hcp))))
   clear y1 y6 hS5 hC5 hK6 hk5 hb5 Nj Yy
   generalize ajp:t.cost (lg k.insts known) 0=cst at *
   have HCS:=hide ajp
   clear ajp
   go_wp2_with fail
   generalize (w5.setCell ⟨pb,4,none⟩ (.slice va nodes.length vc)).setCell ⟨pb,5,none⟩ (.int .i64 cst)=w6 at *
   clear x4 x5 z4 z5
   cases rest with
   | nil =>
    have e7:((k.body.length:Int) == (k.body.length:Int))=true:=by simp
    rw[List.length_nil,Nat.sub_zero] at f1
    by_cases hc4:cst<=400000
    ·have e8:decide (cst<=400000)=true:=decide_eq_true hc4
     have HF:Hid (R=true):=(uh Hg).trans (by show decide (t.cost (lg k.insts known) 0<=400000)=true;rw[uh HCS];exact e8)
     go_quiet ((fail))
     go_wp2
     go_ret
     rw[uh HF]
     refine⟨rfl,(uh vg).trans (But.of_below (jw _ _)),fun _=>?_⟩
     obtain⟨t',bv,nodes',bb,hb,gb,lo,g1,g2,g3,g4⟩:=uh HRT (uh HF)
     exact⟨t',bv,nodes',bb,hb,gb,lo,g1,g2,g3,jg.o8 (Ae.of_below (jw w6 nq)) _ _ g4⟩
    ·have e8:decide (cst<=400000)=false:=decide_eq_false hc4
     have HF:Hid (R=false):=(uh Hg).trans (by show decide (t.cost (lg k.insts known) 0<=400000)=false;rw[uh HCS];exact e8)
     go_quiet ((fail))
     go_wp2
     go_ret
     rw[uh HF]
     exact⟨rfl,(uh vg).trans (But.of_below (jw _ _)),fun h=>by cases h⟩
   | cons r rs =>
    have aus:=(uh Me).nxl
    have e7:(((k.body.length-(r::rs).length:Nat):Int) == (k.body.length:Int))=false:=by
     rw[beq_eq_false_iff_ne,List.length_cons]
     have:=uh HRL
     rw[List.length_cons] at this
     omega
    have e7n:((k.body.length-(r::rs).length) == k.body.length)=false:=by
     rw[beq_eq_false_iff_ne,List.length_cons]
     have:=uh HRL
     rw[List.length_cons] at this
     omega
    have HF:Hid (R=false):=uh Hg
    generalize k.body.length-(r::rs).length=nn at *
    clear aus
    go_quiet ((fail))
    go_wp2
    go_ret
    rw[uh HF]
    exact⟨rfl,(uh vg).trans (But.of_below (jw _ _)),fun h=>by cases h⟩
def firstTo (fs:List (List Int)) (aj insts:List Int) (q:Nat):List Int:=aj++(insts.take q).flatMap (fun g=>fs.getD g.toNat [])
theorem Qn (fs:List (List Int)) (aj insts:List Int):firstTo fs aj insts 0=aj:=by simp[firstTo]
theorem Xe (fs:List (List Int)) (aj insts:List Int) (q:Nat) (hq:q<insts.length):firstTo fs aj insts (q+1)=firstTo fs aj insts q++fs.getD insts[q].toNat []:=by
 unfold firstTo
 rw[List.take_succ_eq_append_getElem hq,List.flatMap_append,List.append_assoc]
 simp
def Hz (pl:List Nat) (fs:List (List Int)) (aj insts:List Int) (q:Nat):List (Nat × Nat):=(List.range q).map (fun j=>(pl.getD (insts.getD j 0).toNat 0,(firstTo fs aj insts j).length))
theorem aoh (pl:List Nat) (fs:List (List Int)) (aj insts:List Int) (q:Nat):Hz pl fs aj insts (q+1)=Hz pl fs aj insts q++[(pl.getD (insts.getD q 0).toNat 0,(firstTo fs aj insts q).length)]:=by
 unfold Hz
 rw[List.range_succ,List.map_append]
 rfl
theorem Py (pl:List Nat) (fs:List (List Int)) (aj insts:List Int) (q:Nat):(Hz pl fs aj insts q).length=q:=by simp[Hz]
def yj (rs insts:List Int):Nat->Int
 | 0=>0
 | q+1=>maxS (yj rs insts q) (rs.getD (insts.getD q 0).toNat 0)
def Gt (fs:List (List Int)) (aj insts:List Int) (q:Nat):Bool:=match insts[q]? with
 | some g=>decide (0<=g∧g<(fs.length:Int))&&decide ((firstTo fs aj insts (q+1)).length<=20000)
 | none=>false
def ownB (fs:List (List Int)) (k:ak):Bool:=decide (k.aj.length<=1000∧k.insts.length<=1000)&&(k.aj.all H9&&(List.range k.insts.length).all (Gt fs k.aj k.insts))
structure EA (W0:World) (ev:Value) (pl:List Nat) (fs:List (List Int)) (rs:List Int):Prop where
 sl:bf 1 8 afg 0 W0 ev pl
 fl:fs.length=pl.length
 rl:rs.length=pl.length
 c3:∀i (h:i<pl.length) (h':i<fs.length),∃a c,W0.cell? ⟨pl[i],3,none⟩=some (.slice a fs[i].length c)∧bf 1 4 Yc 0 W0 (.slice a fs[i].length c) fs[i]∧fs[i].length<=20000
 c6:∀i (h:i<pl.length) (h':i<rs.length),W0.cell? ⟨pl[i],6,none⟩=some (.int .i64 rs[i])∧0<=rs[i]∧rs[i]<=1000000
def Bz (cb co mb:Nat) (iv fv bv:Value) (bound room:Int):Array Value:=#[.pointer (some ⟨cb,co,none⟩),.map (some mb),iv,fv,bv,.int .i64 bound,.int .i64 room]
def aif (k:ak) (pb mb cb co:Nat) (pl:List Nat) (fs:List (List Int)) (rs:List Int) (w:World) (R:Bool) (e:Ending) (w':World):Prop :=
 e=.returned (.bool R)∧But [pb] w w'∧(R=true->∃iv g c,au w' pb 98 (Bz cb co mb iv (.slice (some ⟨g,0,none⟩) (firstTo fs k.aj k.insts k.insts.length).length c) (.slice none 0 0) 0 (((varsOf k).length:Int)+yj rs k.insts k.insts.length))∧dw Om w' w.heap.size iv (Hz pl fs k.aj k.insts k.insts.length)∧dw Oh w' w.heap.size (.slice (some ⟨g,0,none⟩) (firstTo fs k.aj k.insts k.insts.length).length c) (firstTo fs k.aj k.insts k.insts.length))
theorem alp (rs insts:List Int) (h:∀x,x∈rs->0<=x∧x<=1000000) (q:Nat):0<=yj rs insts q∧yj rs insts q<=1000000:=by
 induction q with
 | zero=>simp[yj]
 | succ q ih=>exact aci _ _ _ ih (Pz rs 1000000 (by omega) h _)
theorem ae0 {P:Program} {α β:Type} {E:wo P α} {F:wo P β} {w:World} {b1 b2:Nat} {v u:Value} {xs:List α} {ys:List β} (h1:dw E w b1 v xs) (h2:dw F w b2 u ys) (ht:E.T≠F.T) (b:Nat) (e1:v.ownBlock=some b):u.ownBlock≠some b:=fun e2=>by
 rcases h1.2 with ⟨rfl,_⟩|⟨g,cap,cur,rfl,_,hg,_⟩
 ·cases e1
 ·rcases h2.2 with ⟨rfl,_⟩|⟨g',cap',cur',rfl,_,hg',_⟩
  ·cases e2
  ·simp only[Value.ownBlock,Option.some.injEq] at e1 e2
   subst e1
   subst e2
   rw[hg] at hg'
   simp only[Option.some.injEq,Obj.cells.injEq] at hg'
   exact ht hg'.2.1
theorem dw.Aw {P:Program} {α:Type} {E:wo P α} {w:World} {b1 g:Nat} {v:Value} {xs:List α} {T:TypeId} {cs:Array Value} (h1:dw E w b1 v xs) (h2:au w g T cs) (ht:E.T≠T):v.ownBlock≠some g:=fun e=>by
 rcases h1.2 with ⟨rfl,_⟩|⟨g',cap,cur,rfl,_,hg,_⟩
 ·cases e
 ·simp only[Value.ownBlock,Option.some.injEq] at e
  subst e
  unfold au at h2
  rw[hg] at h2
  simp only[Option.some.injEq,Obj.cells.injEq] at h2
  exact ht h2.2.1
theorem dw.Ai {P:Program} {α:Type} {E:wo P α} {w w':World} {base:Nat} {v:Value} {xs:List α} (h:dw E w base v xs) (hb:∀b,v.ownBlock=some b->w'.heap[b]?=w.heap[b]?):dw E w' base v xs:=by
 obtain⟨h1,h2⟩:=h
 refine⟨h1,?_⟩
 rcases h2 with h2|⟨g,cap,cur,rfl,hg,hh,r⟩
 ·exact Or.inl h2
 ·exact Or.inr ⟨g,cap,cur,rfl,hg,(hb g rfl).trans hh,r⟩
end Go.Proofs.YtlcgnbcgmljpaaaGreat
