import Derived.Deep.QuietTactic
import Derived.BigQuiet
import Derived.Test.YtlcgnbcgmljpaaaGreatFB2
namespace Go.Proofs.YtlcgnbcgmljpaaaGreat
open Go.RowKit
set_option linter.unusedSimpArgs false
set_option linter.unusedVariables false
theorem aip {W0 w1 wA w5:World} {B:Nat} {lv Oo:Value} {p:BF} {s:dh} {a b:BF} {cp:List (Raw 8)} {c:Raw 8} {fp sp fn sn:List Nat} (ho:dw uq w1 B lv cp) (hk:Au W0 w1 p cp fp sp) (hn:(gu lv++fp).Nodup) (Xy:Au W0 w1 (.node s a b .nil) [c] fn sn) (hfn:fn.Nodup) (hd:∀x,x∈gu lv++fp->x∉fn) (hA:Below w1.heap.size w1 wA) (Bh:dw uq w5 B Oo (cp++[c])) (hg5:wA.grownBy w5 lv.ownBlock) (Eh:∀b,Oo.ownBlock=some b->lv.ownBlock=some b∨wA.heap.size<=b) :
  Au W0 w5 (p.app (.node s a b .nil)) (cp++[c]) (fp++fn) (sp++sn)∧(gu Oo++(fp++fn)).Nodup:=by
 have hz:=hA.size
 have hfr:∀bs,(∀x,x∈bs->x<w1.heap.size)->(∀x,x∈bs->x∉gu lv)->Fr bs w1 w5:=fun bs h1 h2 x hx=>(hg5.block x (Nat.lt_of_lt_of_le (h1 x hx) hz) (fun e=>h2 x hx (iq.2 e.symm))).trans (hA.block x (h1 x hx))
 obtain⟨n1,n2,n3⟩:=Ij hn
 have hltp:=hk.lt
 have ayf:=Xy.lt
 have hlv:∀x,x∈gu lv->x<w1.heap.size:=fun x hx=>(World.ownsRow.lt ho x (iq.1 hx)).2
 refine⟨(hk.fr (hfr fp hltp (fun x hx h9=>n3 x h9 hx))).app (Xy.fr (hfr fn ayf (fun x hx h9=>hd x (List.mem_append_left _ h9) hx))),?_⟩
 rw[List.nodup_append,List.nodup_append]
 refine⟨by unfold gu;cases Oo.ownBlock<;>simp,⟨n2,hfn,fun x g1 y g2 e=>hd x (List.mem_append_right _ g1) (e▸g2)⟩,fun x g1 y g2 e=>?_⟩
 subst e
 rcases Eh x (iq.1 g1) with g3|g3
 ·rcases List.mem_append.1 g2 with g4|g4
  ·exact n3 x (iq.2 g3) g4
  ·exact hd x (List.mem_append_left _ (iq.2 g3)) g4
 ·rcases List.mem_append.1 g2 with g4|g4
  ·have:=hltp x g4;omega
  ·have:=ayf x g4;omega
theorem Vy (l:List (List Nat)) (m n x:Nat):((l.take (m+n)).flatten).count x=((l.take m).flatten).count x+(((l.drop m).take n).flatten).count x:=by
 rw[List.take_add,List.flatten_append,List.count_append]
theorem alr (l:List (List Nat)) (m x:Nat) (h:m<l.length):(((l.drop m).take 1).flatten).count x=l[m].count x:=by
 have e:(l.drop m).take 1=[l[m]]:=by rw[List.drop_eq_getElem_cons h];rfl
 rw[e]
 simp
theorem a3c (l:List (List Nat)) (i pl al bl x:Nat) (h:i+pl<l.length):((l.drop i).take pl).flatten.count x+l[i+pl].count x+((l.drop (i+pl+1)).take al).flatten.count x+((l.drop (i+pl+1+al+1)).take bl).flatten.count x<=((l.drop i).take (pl+(1+(al+(1+(bl+1)))))).flatten.count x:=by
 have h8:=alr (l.drop i) pl x (by rw[List.length_drop];omega)
 rw[List.getElem_drop] at h8
 rw[Vy,Vy,h8,Vy,Vy,Vy]
 simp only[List.drop_drop]
 have e1:i+(pl+1)=i+pl+1:=rfl
 have e2:i+(pl+(1+(al+1)))=i+pl+1+al+1:=by omega
 simp only[Nat.add_assoc]
 simp only[Nat.add_assoc] at e1 e2
 omega
theorem O9 {w w1 w2:World} {row:Option Nat} (h1:w.grownBy w1 row) (h2:w1.grownBy w2 row):w.grownBy w2 row :=
 ⟨h2.os.trans h1.os,h2.tape.trans h1.tape,h2.output.trans h1.output,Nat.le_trans h1.size h2.size,fun k hk hne=>(h2.block k (Nat.lt_of_lt_of_le hk h1.size) hne).trans (h1.block k hk hne)⟩
theorem asv {w w':World} (h:Below w.heap.size w w') (row:Option Nat):w.grownBy w' row:=⟨h.os,h.tape,h.output,h.size,fun k hk _=>h.block k hk⟩
theorem ap4 (w:World) (b o:Nat) (u:Value):w.grownBy (w.setCell ⟨b,o,none⟩ u) (some b):=⟨rfl,rfl,rfl,by simp[World.setCell],fun k _ hk=>Below.heap_setCell _ _ _ _ (fun e=>hk (by simp only at e;rw[e]))⟩
theorem Lu {w w':World} {ub T:Nat} {cs:Array Value} (hu:au w ub T cs) (hg:w.grownBy w' (some ub)) {bs Ts:List Nat} (ht:Dc Ts bs w) (hT:T∉Ts):Fr bs w w':=fun b hb=>hg.block b (ht.lt b hb) (fun e=>hu.Tn ht hT ((Option.some.inj e)▸hb))
theorem dw.tyR {P:Program} {α:Type} {E:wo P α} {w:World} {base:Nat} {v:Value} {xs:List α} (ho:dw E w base v xs):Dc [E.T] (gu v) w:=fun b hb=>by
 obtain⟨cur,hh⟩:=ho.cellT (iq.1 hb)
 exact⟨cur,_,List.mem_singleton.2 rfl,hh⟩
theorem dw.L9 {P:Program} {α:Type} {E:wo P α} {w w':World} {base:Nat} {v:Value} {xs:List α} (ho:dw E w base v xs) (hf:Fr (gu v) w w'):dw E w' base v xs:=ho.Ai (fun b hb=>hf b (iq.2 hb))
theorem Rt (p:BF):p.app .nil=p:=by
 induction p using BF.ind with
 | nil=>rfl
 | node s a b r iha ihb ihr=>show BF.node s a b (r.app .nil)=_;rw[ihr]
def UnP (W0:World) (ub:Nat) (bv:Value) (t:BF) (sub:List Nat) (nx:Nat) (w:World) (e:Ending) (w':World):Prop:=∃v css fs ss,e=.returned v∧dw uq w' w.heap.size v css∧Au W0 w' t css fs ss∧(gu v++fs).Nodup∧(∀b,b∈fs->w.heap.size<=b)∧(∀x,ss.count x<=sub.count x)∧au w' ub 130 #[bv,.int .i64 (nx:Int)]∧w.grownBy w' (some ub)
set_option maxRecDepth 20000 in
set_option maxHeartbeats 4000000 in
theorem ap5 (W0:World) (ub:Nat) (bv:Value) (Bc:List (Raw 6)) (body:List dh) (subs:List (List Nat)) (hall:zn (fun c x s=>Aa W0 c.1 x s) Bc body subs) (hbl:body.length<=1000000):∀(n:Nat) (t:BF) (rest:List dh) (i:Nat) (w:World),t.flat.length<n->t.wf->body.drop i=t.flat++rest->(∀x,rest.head?=some x->x.kind=5∨x.kind=6)->i<=body.length->dw zh w 0 bv Bc->au w ub 130 #[bv,.int .i64 (i:Int)] ->
  Calls Tryz.prog 92 #[.pointer (some ⟨ub,0,none⟩)] w (UnP W0 ub bv t ((subs.drop i).take t.flat.length).flatten (i+t.flat.length+(if rest=[] then 0 else 1)) w):=by
 intro n
 induction n with
 | zero=>intro t rest i w h;omega
 | succ n ih =>
  intro t rest i w hn hwf hdr hre hib hob hub
  obtain⟨ba,bc,hbv⟩:=hob.slice
  subst hbv
  have hal:=hall.len
  obtain⟨L6,hL6⟩:∃z,z=Bc.length:=⟨_,rfl⟩
  have hLb:L6<=1000000:=by omega
  have HAL:=hide hall
  have HL6:=hide hL6
  have HLB:Hid (body.length=L6∧subs.length=L6):=hide ⟨by omega,by omega⟩
  rw[←hL6] at ih hob hub ⊢
  have HIH:=hide ih
  have HWF:=hide hwf
  have HDR:=hide hdr
  have HRE:=hide hre
  have Wv:=hide hob
  have HUB:=hide hub
  have Wq:=hide hn
  have hil:i<=L6:=by omega
  have HIL:=hide hil
  clear ih hwf hdr hre hob hub hn hall hal hL6 hil hib
  obtain⟨PO,Af⟩:∃PO:Ending->World->Prop,PO=UnP W0 ub (.slice ba L6 bc) t ((subs.drop i).take t.flat.length).flatten (i+t.flat.length+(if rest=[] then 0 else 1)) w:=⟨_,rfl⟩
  rw[←Af]
  have Fh:=hide Af
  clear Af
  go_enter Tryz.func92,Tryz.ntmps92
  go_wp2
  go_loopw [3] (fun lv wr=>∃(j:Nat) (p r:BF) (cp:List (Raw 8)) (fp sp:List Nat),j<=L6∧Hid (j=i+p.flat.length∧p.app r=t∧r.wf∧body.drop j=r.flat++rest)∧Hid (dw uq wr w.heap.size lv cp∧Au W0 wr p cp fp sp∧(gu lv++fp).Nodup∧(∀b,b∈fp->w.heap.size<=b)∧∀x,sp.count x<=((subs.drop i).take p.flat.length).flatten.count x)∧Hid (au wr ub 130 #[.slice ba L6 bc,.int .i64 (j:Int)])∧Hid (dw zh wr 0 (.slice ba L6 bc) Bc)∧Hid (w.grownBy wr (some ub))) (fun _ wr=>L6-(match wr.cell? ⟨ub,1,none⟩ with|some (.int _ z)=>z.toNat|_=>0))
  case atStart=>exact⟨i,.nil,t,[],[],[],uh HIL,⟨by simp[BF.flat],rfl,uh HWF,uh HDR⟩,⟨dw.nil _ _,⟨rfl,rfl,rfl⟩,by simp[gu,Value.ownBlock],fun b hb=>(by cases hb),fun x=>by simp⟩,uh HUB,uh Wv,⟨rfl,rfl,rfl,Nat.le_refl _,fun _ _ _=>rfl⟩⟩
  case round =>
   rename World=>wr
   obtain⟨j,p,r,cp,fp,sp,hj,HP,HK,HU,HO,HG⟩:=hrel
   have u0:=(uh HU).cell (i:=0) (v:=.slice ba L6 bc) rfl
   have u1:=(uh HU).cell (i:=1) (v:=.int .i64 (j:Int)) rfl
   by_cases hlt:j<L6
   case neg =>
    have Ws:∀w',Below wr.heap.size wr w'->PO (.returned u3) w':=fun w' hbw=>by
     obtain⟨p1,p2,p3,p4⟩:=uh HP
     obtain⟨k1,k2,k3,k4,k5⟩:=uh HK
     have a5t:=(uh HLB).1
     have hz:body.drop j=[]:=List.drop_eq_nil_of_le (by omega)
     rw[hz] at p4
     have hr0:r=.nil:=by
      cases r using BF.inv with
      | nil=>rfl
      | node s a b r =>
       rw[jd] at p4
       split at p4<;>simp at p4
     subst hr0
     have hrest:rest=[]:=by simpa[BF.flat] using p4.symm
     rw[Rt] at p2
     subst p2
     rw[uh Fh,if_pos hrest,Nat.add_zero,←p1]
     exact⟨u3,cp,fp,sp,rfl,k1.below hbw,k2.fr (k2.typ.below hbw),k3,k4,k5,(uh HU).below hbw (uh HU).lt,O9 (uh HG) (asv hbw _)⟩
    have zu:=hide Ws
    have hjI:¬(j:Int)<(L6:Int):=by omega
    clear Ws HP HK HU HO HG
    go_wp2
    go_quiet ((fail))
    have a2g:Hid (PO (.returned u3) (wr.drewN nq)):=hide (uh zu _ (jw _ _))
    go_wp2
    exact uh a2g
   have hjI:(j:Int)<(L6:Int):=by omega
   obtain⟨a5u,a5v⟩:=uh HLB
   have hjb:j<body.length:=by omega
   have hj6:j<Bc.length:=by rw[←uh HL6];exact hlt
   have hjs:j<subs.length:=by omega
   have hT:=(uh HAL).get j hj6 hjb hjs
   have hHT:=hide hT
   obtain⟨s,hs⟩:∃s,s=body[j]:=⟨_,rfl⟩
   rw[←hs] at hT
   obtain⟨oa,oc,ka,kc,aa,ac,hst⟩:=Aa.shape hT
   rcases (uh HO).O8 with ⟨_,_,hh1,hh2⟩|⟨g,cap,hh1,hh2⟩
   ·exfalso
    rw[hh2] at hj6
    exact absurd hj6 (Nat.not_lt_zero _)
   simp only[Value.slice.injEq] at hh1
   obtain⟨rfl,hh3,rfl⟩:=hh1
   have hcc:∀k u,Bc[j].1[k]?=some u->wr.cell? ⟨g,j*6+k,none⟩=some u:=fun k u hu=>by
    obtain⟨hk,hku⟩:=List.getElem?_eq_some_iff.1 hu
    have h9:=(hh2 j hj6 k hk).1
    have e9:(zh.f Bc[j])=Bc[j].1:=rfl
    simp only[e9] at h9
    rw[hku] at h9
    exact h9
   rw[hst] at hcc
   have d0:=hcc 0 _ rfl
   have d1:=hcc 1 _ rfl
   have d2:=hcc 2 _ rfl
   have d3:=hcc 3 _ rfl
   have d4:=hcc 4 _ rfl
   have d5:=hcc 5 _ rfl
   simp only[Nat.add_zero] at d0
   have HTS:=hide (And.intro hT (And.intro hst hs))
   clear hcc hh2 hh3 hT hst hs
   go_wp2
   go_quiet ((fail))
   obtain⟨wD,hwD⟩:∃z,z=wr.drewN nq:=⟨_,rfl⟩
   have hD:Below wr.heap.size wr wD:=by rw[hwD];exact jw _ _
   rw[←hwD]
   have u0:wD.cell? ⟨ub,0,none⟩=some (.slice (some ⟨g,0,none⟩) L6 bc):=by rw[hwD];exact u0
   have u1:wD.cell? ⟨ub,1,none⟩=some (.int .i64 (j:Int)):=by rw[hwD];exact u1
   have d0:wD.cell? ⟨g,j*6,none⟩=some (.int .i64 s.kind):=by rw[hwD];exact d0
   have d1:wD.cell? ⟨g,j*6+1,none⟩=some (.string s.name):=by rw[hwD];exact d1
   have d2:wD.cell? ⟨g,j*6+2,none⟩=some (.int .i64 s.at_):=by rw[hwD];exact d2
   have d3:wD.cell? ⟨g,j*6+3,none⟩=some (.slice oa s.outs.length oc):=by rw[hwD];exact d3
   have d4:wD.cell? ⟨g,j*6+4,none⟩=some (.slice ka s.code.length kc):=by rw[hwD];exact d4
   have d5:wD.cell? ⟨g,j*6+5,none⟩=some (.slice aa s.args.length ac):=by rw[hwD];exact d5
   have HD:=hide hD
   clear hD hwD
   go_wp2
   go_region_held3 (fun w'=>w'.cell? ⟨ub,0,none⟩=some (.slice (some ⟨g,0,none⟩) L6 bc)∧w'.cell? ⟨ub,1,none⟩=some (.int .i64 (j:Int))∧w'.cell? ⟨g,j*6,none⟩=some (.int .i64 s.kind)∧w'.cell? ⟨g,j*6+1,none⟩=some (.string s.name)∧w'.cell? ⟨g,j*6+2,none⟩=some (.int .i64 s.at_)∧w'.cell? ⟨g,j*6+3,none⟩=some (.slice oa s.outs.length oc)∧w'.cell? ⟨g,j*6+4,none⟩=some (.slice ka s.code.length kc)∧w'.cell? ⟨g,j*6+5,none⟩=some (.slice aa s.args.length ac)) (go_keep) (fail)
   obtain⟨wE,hwE⟩:∃z,z=(wD.alloc (.cells #[.int .i64 s.kind,.string s.name,.int .i64 s.at_,.slice oa s.outs.length oc,.slice ka s.code.length kc,.slice aa s.args.length ac,.slice none 0 0,.slice none 0 0] 165)).drew:=⟨_,rfl⟩
   rw[←hwE]
   have hDE:Below wD.heap.size wD wE:=by rw[hwE];exact((Below.refl _ _).alloc (Nat.le_refl _) _).drew
   have hrE:Below wr.heap.size wr wE:=(uh HD).trans (hDE.mono (uh HD).size)
   have hbE:au wE wD.heap.size 165 #[.int .i64 s.kind,.string s.name,.int .i64 s.at_,.slice oa s.outs.length oc,.slice ka s.code.length kc,.slice aa s.args.length ac,.slice none 0 0,.slice none 0 0]:=by rw[hwE];exact jl wD _ _
   have huE:=(uh HU).below hrE (uh HU).lt
   have v0:=huE.cell (i:=0) (v:=.slice (some ⟨g,0,none⟩) L6 bc) rfl
   have v1:=huE.cell (i:=1) (v:=.int .i64 (j:Int)) rfl
   have z1:=huE.free 1
   obtain⟨wF,hwF⟩:∃z,z=wE.setCell ⟨ub,1,none⟩ (.int .i64 ((j:Int)+1)):=⟨_,rfl⟩
   have a3d:=(uh HU).lt
   have hDs:=(uh HD).size
   have hbF:au wF wD.heap.size 165 #[.int .i64 s.kind,.string s.name,.int .i64 s.at_,.slice oa s.outs.length oc,.slice ka s.code.length kc,.slice aa s.args.length ac,.slice none 0 0,.slice none 0 0]:=by rw[hwF];exact(Below.heap_setCell _ _ _ _ (by simp only;omega)).trans hbE
   have huF:au wF ub 130 #[.slice (some ⟨g,0,none⟩) L6 bc,.int .i64 ((j+1:Nat):Int)]:=by rw[hwF];exact huE.set 1 (.int .i64 ((j:Int)+1))
   have hgF:wr.grownBy wF (some ub):=by
    rw[hwF]
    exact⟨hrE.os,hrE.tape,hrE.output,by simpa[World.setCell] using hrE.size,fun k hk hne=>(Below.heap_setCell _ _ _ _ (fun e=>hne (by simp only at e;rw[e]))).trans (hrE.block k hk)⟩
   have g0:=hbE.cell (i:=0) (v:=.int .i64 s.kind) rfl
   have gE:=hide hbE
   have hne1:¬wD.heap.size=ub:=by omega
   have hne2:¬ub=wD.heap.size:=by omega
   have HBF:=hide hbF
   have HUF:=hide huF
   have Uc:=hide hgF
   have Kr:Hid (wr.heap.size<=wD.heap.size∧wD.heap.size<wF.heap.size):=hide ⟨hDs,hbF.lt⟩
   clear hbF huF hgF hDE hrE hbE huE a3d hDs d0 d1 d2 d3 d4 d5 u0 u1 hwE
   obtain⟨p1,p2,p3,p4⟩:=uh HP
   have hdj:body.drop j=s::body.drop (j+1):=by rw[List.drop_eq_getElem_cons hjb,←(uh HTS).2.2]
   rw[hdj] at p4
   cases r using BF.inv with
   | nil =>
    have a3e:s.kind=5∨s.kind=6:=uh HRE s (by rw[←(show BF.nil.flat++rest=rest from rfl),←p4];rfl)
    have Ws:PO (.returned u3) wF:=by
     obtain⟨k1,k2,k3,k4,k5⟩:=uh HK
     rw[Rt] at p2
     subst p2
     have hrest:rest≠[]:=by
      intro h9
      rw[h9] at p4
      cases p4
     rw[uh Fh,if_neg hrest,←p1]
     exact⟨u3,cp,fp,sp,rfl,k1.L9 (Lu (uh HU) (uh Uc) k1.tyR (by decide)),k2.fr (Lu (uh HU) (uh Uc) k2.typ (by decide)),k3,k4,k5,uh HUF,O9 (uh HG) (uh Uc)⟩
    have zu:=hide Ws
    clear Ws p1 p2 p3 p4 hdj HP HK HU HO HG
    rcases a3e with hk5|hk6
    ·have e5:((s.kind == 5):Bool)=true:=by rw[hk5];rfl
     clear hk5
     go_wp2
     rw[←hwF]
     exact uh zu
    ·have e5:((s.kind == 5):Bool)=false:=by rw[hk6];rfl
     have e6:((s.kind == 6):Bool)=true:=by rw[hk6];rfl
     clear hk6
     go_wp2
     rw[←hwF]
     exact uh zu
   | node s9 a b r =>
    obtain⟨m1,m2,m3,m4,m5,m6⟩:=p3
    have hs9:s9=s:=by
     rw[jd] at p4
     split at p4
     ·exact(List.cons.inj p4).1.symm
     ·exact(List.cons.inj p4).1.symm
    subst hs9
    obtain⟨k1,k2,k3,k4,k5⟩:=uh HK
    have t1:=(uh HTS).1
    have t2:=(uh HTS).2.1
    have HUJ:Hid (wr.cell? ⟨ub,1,none⟩=some (.int .i64 (j:Int))):=hide ((uh HU).cell (i:=1) rfl)
    have hpl:p.flat.length=j-i:=by omega
    by_cases hk4:s9.kind=4
    case neg =>
     obtain⟨rfl,rfl⟩:=m3 hk4
     have q4:body.drop (j+1)=r.flat++rest:=by
      rw[jd,if_neg hk4] at p4
      exact(List.cons.inj p4).2
     have ane:(p.app (.node s9 .nil .nil .nil)).flat.length=p.flat.length+1:=by rw[Aj,jd,if_neg hk4];simp[BF.flat]
     have happ:(p.app (.node s9 .nil .nil .nil)).app r=t:=by
      rw[←p2]
      clear p2 p1 p4 k2 k5 hpl ane HK HP
      induction p using BF.ind with
      | nil=>rfl
      | node s a b r2 iha ihb ihr=>show BF.node s a b ((r2.app _).app r)=BF.node s a b (r2.app _);rw[ihr]
     obtain⟨c8,hc8⟩:∃c:Raw 8,c.1=[.int .i64 s9.kind,.string s9.name,.int .i64 s9.at_,.slice oa s9.outs.length oc,.slice ka s9.code.length kc,.slice aa s9.args.length ac,.slice none 0 0,.slice none 0 0]:=⟨⟨[.int .i64 s9.kind,.string s9.name,.int .i64 s9.at_,.slice oa s9.outs.length oc,.slice ka s9.code.length kc,.slice aa s9.args.length ac,.slice none 0 0,.slice none 0 0],by simp,by intro u hu;simp only[List.mem_cons,List.not_mem_nil,or_false] at hu;rcases hu with rfl|rfl|rfl|rfl|rfl|rfl|rfl|rfl<;>rfl⟩,rfl⟩
     have Xy:Au W0 wF (.node s9 .nil .nil .nil) [c8] ([]++[]++([]++[])++[]) (subs[j]++[]++[]++[]):=⟨Bc[j].1,.slice none 0 0,.slice none 0 0,c8,[],[],[],[],[],[],subs[j],[],[],[],rfl,by rw[hc8,t2];rfl,t1,⟨dw.nil _ _,rfl,rfl,rfl⟩,⟨dw.nil _ _,rfl,rfl,rfl⟩,⟨rfl,rfl,rfl⟩,rfl,rfl⟩
     have k1F:=k1.L9 (Lu (uh HU) (uh Uc) k1.tyR (by decide))
     have k2F:=k2.fr (Lu (uh HU) (uh Uc) k2.typ (by decide))
     have Yz:=(uh HO).L9 (Lu (uh HU) (uh Uc) (uh HO).tyR (by decide))
     have hA:Below wF.heap.size wF (wF.alloc (.cells #[.int .i64 s9.kind,.string s9.name,.int .i64 s9.at_,.slice oa s9.outs.length oc,.slice ka s9.code.length kc,.slice aa s9.args.length ac,.slice none 0 0,.slice none 0 0] 165)):=(Below.refl _ _).alloc (Nat.le_refl _) _
     have asw:cp.length<=1000000:=by
      have h9:=k2.len
      omega
     have HOA:=hide (k1F.below hA)
     have Ip:Hid (w.heap.size<=(wF.alloc (.cells #[.int .i64 s9.kind,.string s9.name,.int .i64 s9.at_,.slice oa s9.outs.length oc,.slice ka s9.code.length kc,.slice aa s9.args.length ac,.slice none 0 0,.slice none 0 0] 165)).heap.size):=hide (Nat.le_trans (uh HG).size (Nat.le_trans (uh Uc).size hA.size))
     have Oi:Hid ((cp.length+1)*152<=140737488355328):=by refine hide ?_;omega
     have Qq:Hid (∀v5 w5,dw uq w5 w.heap.size v5 (cp++[c8])->(wF.alloc (.cells #[.int .i64 s9.kind,.string s9.name,.int .i64 s9.at_,.slice oa s9.outs.length oc,.slice ka s9.code.length kc,.slice aa s9.args.length ac,.slice none 0 0,.slice none 0 0] 165)).grownBy w5 u3.ownBlock->(∀b,v5.ownBlock=some b->u3.ownBlock=some b∨(wF.alloc (.cells #[.int .i64 s9.kind,.string s9.name,.int .i64 s9.at_,.slice oa s9.outs.length oc,.slice ka s9.code.length kc,.slice aa s9.args.length ac,.slice none 0 0,.slice none 0 0] 165)).heap.size<=b)->∃(p' r':BF) (cp':List (Raw 8)) (fp' sp':List Nat),Hid (j+1=i+p'.flat.length∧p'.app r'=t∧r'.wf∧body.drop (j+1)=r'.flat++rest)∧Hid (dw uq w5 w.heap.size v5 cp'∧Au W0 w5 p' cp' fp' sp'∧(gu v5++fp').Nodup∧(∀b,b∈fp'->w.heap.size<=b)∧∀x,sp'.count x<=((subs.drop i).take p'.flat.length).flatten.count x)∧Hid (au w5 ub 130 #[.slice (some ⟨g,0,none⟩) L6 bc,.int .i64 ((j+1:Nat):Int)])∧Hid (dw zh w5 0 (.slice (some ⟨g,0,none⟩) L6 bc) Bc)∧Hid (w.grownBy w5 (some ub))):=by
      refine hide (fun v5 w5 o5 g5 n5=>?_)
      obtain⟨x1,x2⟩:=aip k1F k2F k3 Xy (by simp) (fun x _ h9=>by simp at h9) hA o5 g5 n5
      have huA:=(uh HUF).below hA (uh HUF).lt
      have hrow:∀b9,u3.ownBlock=some b9->b9≠ub:=fun b9 h9 e9=>by
       subst e9
       exact dw.Aw (uh HOA) huA (by decide) h9
      refine⟨_,r,_,_,_,⟨by rw[ane];omega,happ,m6,q4⟩,⟨o5,x1,x2,fun b9 jc=>?_,fun x=>?_⟩,huA.gr g5 (fun e9=>hrow ub e9.symm rfl),(Yz.below hA).L9 (fun b9 jc=>g5.block b9 ((Yz.below hA).tyR.lt b9 jc) (fun e9=>dw.Aw (uh HOA) (show au _ b9 60 _ from ((Yz.below hA).cellT (iq.1 jc)).choose_spec) (by decide) e9.symm)),⟨g5.os.trans (hA.os.trans (O9 (uh HG) (uh Uc)).os),g5.tape.trans (hA.tape.trans (O9 (uh HG) (uh Uc)).tape),g5.output.trans (hA.output.trans (O9 (uh HG) (uh Uc)).output),Nat.le_trans (uh Ip) g5.size,fun k hk hne=>?_⟩⟩
      ·simp only[List.append_nil,List.append_assoc] at jc
       exact k4 b9 (by simpa using jc)
      ·rw[ane,Vy,List.count_append]
       have h9:=k5 x
       have h8:=alr (subs.drop i) p.flat.length x (by rw[List.length_drop];omega)
       rw[List.getElem_drop] at h8
       have h7:subs[i+p.flat.length]=subs[j]:=by congr 1;omega
       rw[h8,h7]
       simp only[List.append_nil]
       omega
      ·have hgg:=O9 (uh HG) (uh Uc)
       refine(g5.block k (Nat.lt_of_lt_of_le hk (Nat.le_trans hgg.size hA.size)) (fun e9=>?_)).trans ((hA.block k (Nat.lt_of_lt_of_le hk hgg.size)).trans (hgg.block k hk hne))
       have h9:=(World.ownsRow.lt k1 k e9.symm).1
       omega
     have e5:((s9.kind == 5):Bool)=false:=by rw[beq_eq_false_iff_ne];exact m1
     have e6:((s9.kind == 6):Bool)=false:=by rw[beq_eq_false_iff_ne];exact m2
     have e4:((s9.kind == 4):Bool)=false:=by rw[beq_eq_false_iff_ne];exact hk4
     have g1:=(uh gE).cell (i:=1) (v:=.string s9.name) rfl
     have g2:=(uh gE).cell (i:=2) (v:=.int .i64 s9.at_) rfl
     have g3:=(uh gE).cell (i:=3) (v:=.slice oa s9.outs.length oc) rfl
     have g4:=(uh gE).cell (i:=4) (v:=.slice ka s9.code.length kc) rfl
     have g5:=(uh gE).cell (i:=5) (v:=.slice aa s9.args.length ac) rfl
     have g6:=(uh gE).cell (i:=6) (v:=.slice none 0 0) rfl
     have g7:=(uh gE).cell (i:=7) (v:=.slice none 0 0) rfl
     have HC8:=hide hc8
     have asx:=hide hlt
     clear Xy k1F k2F Yz hA asw q4 ane happ hc8 m1 m2 m3 m4 m5 m6 k1 k2 k3 k4 k5 t1 t2 hpl p1 p2 p4 hk4 hdj HP HK HU HO HG hlt
     subst hwF
     go_wp2_with (at_builtin;go_must (refine l9 uq _ rfl _ _ rfl w.heap.size _ cp rfl (uh HOA) _ c8 rfl (fun k u hu=>by rw[World.cell?_alloc_at _ _ _ _ (by simp[World.setCell])];have hu':c8.1[k]?=some u:=hu;rw[uh HC8] at hu';simpa using hu') (uh Oi) (uh Ip) ?_))
     intro v5 w5 o5 h5g n5
     have Dz:=hide (uh Qq v5 w5 o5 h5g (by simpa[World.setCell] using n5))
     have HU5:Hid (w5.cell? ⟨ub,1,none⟩=some (.int .i64 ((j+1:Nat):Int))):=by
      obtain⟨_,_,_,_,_,_,_,h9,_⟩:=uh Dz
      exact hide ((uh h9).cell (i:=1) rfl)
     clear o5 h5g n5
     go_wp2
     go_roundw
     case rel =>
      obtain⟨p',r',cp',fp',sp',y1,y2,y3,y4,y5⟩:=uh Dz
      exact⟨j+1,p',r',cp',fp',sp',uh asx,y1,y2,y3,y4,y5⟩
     case measure =>
      have h9:=uh asx
      simp only[uh HU5,uh HUJ,Int.toNat_natCast]
      exact Nat.sub_lt_sub_left h9 (Nat.lt_succ_self j)
    have q4:body.drop (j+1)=a.flat++(elS::(b.flat++(uo::(r.flat++rest)))):=by
     rw[jd,if_pos hk4] at p4
     have h9:=(List.cons.inj p4).2
     rw[h9]
     simp
    have av3:j+1+a.flat.length+1+b.flat.length+1<=L6:=by
     have h9:=congrArg List.length q4
     simp only[List.length_drop,List.length_append,List.length_cons] at h9
     omega
    obtain⟨J1,hJ1⟩:∃z,z=j+1+a.flat.length+1:=⟨_,rfl⟩
    obtain⟨J2,hJ2⟩:∃z,z=J1+b.flat.length+1:=⟨_,rfl⟩
    have q5:body.drop J1=b.flat++(uo::(r.flat++rest)):=by
     have h9:=congrArg (List.drop (a.flat.length+1)) q4
     rw[List.drop_drop] at h9
     rw[show J1=j+1+(a.flat.length+1) from by omega,h9,show a.flat.length+1=(a.flat++[elS]).length from by simp,show a.flat++(elS::(b.flat++(uo::(r.flat++rest))))=(a.flat++[elS])++(b.flat++(uo::(r.flat++rest))) from by simp,List.drop_left]
    have q6:body.drop J2=r.flat++rest:=by
     have h9:=congrArg (List.drop (b.flat.length+1)) q5
     rw[List.drop_drop] at h9
     rw[show J2=J1+(b.flat.length+1) from by omega,h9,show b.flat.length+1=(b.flat++[uo]).length from by simp,show b.flat++(uo::(r.flat++rest))=(b.flat++[uo])++(r.flat++rest) from by simp,List.drop_left]
    have anf:a.flat.length<n∧b.flat.length<n:=by
     have h9:=uh Wq
     rw[←p2,Aj,jd,if_pos hk4] at h9
     simp only[List.length_append,List.length_cons] at h9
     omega
    have Yz:=(uh HO).L9 (Lu (uh HU) (uh Uc) (uh HO).tyR (by decide))
    have qg:Hid (Calls Tryz.prog 92 #[.pointer (some ⟨ub,0,none⟩)] wF (UnP W0 ub (.slice (some ⟨g,0,none⟩) L6 bc) a ((subs.drop (j+1)).take a.flat.length).flatten J1 wF)):=by
     have h9:=uh HIH a (elS::(b.flat++(uo::(r.flat++rest)))) (j+1) wF anf.1 m4 q4 (fun x hx=>by cases hx;exact Or.inl rfl) (by omega) Yz (uh HUF)
     rw[if_neg (by simp)] at h9
     rw[hJ1]
     exact hide h9
    have asy:(p.app (.node s9 a b .nil)).flat.length=p.flat.length+(1+(a.flat.length+(1+(b.flat.length+1)))):=by
     rw[Aj,jd,if_pos hk4]
     simp only[List.length_append,List.length_cons,BF.flat,List.length_nil]
     omega
    have happ:(p.app (.node s9 a b .nil)).app r=t:=by
     rw[←p2]
     clear p2 p1 p4 k2 k5 hpl asy HK HP anf
     induction p using BF.ind with
     | nil=>rfl
     | node s a b r2 iha ihb ihr=>show BF.node s _ _ ((r2.app _).app r)=BF.node s _ _ (r2.app _);rw[ihr]
    have HQ:=hide (And.intro q5 (And.intro q6 (And.intro av3 (And.intro hJ1 (And.intro hJ2 (And.intro asy happ))))))
    have Xz:=hide (And.intro m5 (And.intro m6 anf.2))
    have HOF:=hide Yz
    have HT1:=hide (And.intro t1 t2)
    have HPP:=hide (And.intro p1 hpl)
    have e5:((s9.kind == 5):Bool)=false:=by rw[beq_eq_false_iff_ne];exact m1
    have e6:((s9.kind == 6):Bool)=false:=by rw[beq_eq_false_iff_ne];exact m2
    have e4:((s9.kind == 4):Bool)=true:=by rw[hk4];rfl
    have asx:=hide hlt
    clear q4 q5 q6 av3 hJ1 hJ2 anf Yz asy happ m1 m2 m3 m4 m5 m6 k1 k2 k3 k4 k5 t1 t2 hpl p1 p2 p4 hk4 hdj HP hlt HTS
    rw[hwF] at qg
    go_wp2_with fail
    refine(uh qg).mono ?_
    rintro e w1 ⟨v1,ca,fa,sa,rfl,hoa,hka,hna,hla,hsa,hu1,hg1⟩
    rw[←hwF] at hoa hla hg1
    obtain⟨va,vc,hv1⟩:=hoa.slice
    subst hv1
    have hsz:=uh Kr
    have asz:=(uh HU).lt
    have hb1:au w1 wD.heap.size 165 #[.int .i64 s9.kind,.string s9.name,.int .i64 s9.at_,.slice oa s9.outs.length oc,.slice ka s9.code.length kc,.slice aa s9.args.length ac,.slice none 0 0,.slice none 0 0]:=(uh HBF).gr hg1 (fun e9=>by have:=Option.some.inj e9;omega)
    have c61:=hb1.cell (i:=6) (v:=.slice none 0 0) rfl
    have z61:=hb1.free 6
    obtain⟨HQ5,HQ6,HQL,HQ1,Po,HQF,HQA⟩:=uh HQ
    obtain⟨mm5,mm6,ang⟩:=uh Xz
    have ayg:J1<=body.length:=by omega
    obtain⟨w2,hw2⟩:∃z,z=w1.setCell ⟨wD.heap.size,6,none⟩ (.slice va ca.length vc):=⟨_,rfl⟩
    have Wx:w1.grownBy w2 (some wD.heap.size):=by rw[hw2];exact ap4 _ _ _ _
    have hu2:au w2 ub 130 #[.slice (some ⟨g,0,none⟩) L6 bc,.int .i64 (J1:Int)]:=hu1.gr Wx (fun e9=>hne2 (Option.some.inj e9))
    have hb2:au w2 wD.heap.size 165 #[.int .i64 s9.kind,.string s9.name,.int .i64 s9.at_,.slice oa s9.outs.length oc,.slice ka s9.code.length kc,.slice aa s9.args.length ac,.slice va ca.length vc,.slice none 0 0]:=by rw[hw2];exact hb1.set 6 _
    have hO1:=(uh HOF).L9 (Lu (uh HUF) hg1 (uh HOF).tyR (by decide))
    have hO2:=hO1.L9 (Lu hb1 Wx hO1.tyR (by decide))
    have HC2:Hid (Calls Tryz.prog 92 #[.pointer (some ⟨ub,0,none⟩)] w2 (UnP W0 ub (.slice (some ⟨g,0,none⟩) L6 bc) b ((subs.drop J1).take b.flat.length).flatten J2 w2)):=by
     have h9:=uh HIH b (uo::(r.flat++rest)) J1 w2 ang mm5 HQ5 (fun x hx=>by cases hx;exact Or.inr rfl) ayg hO2 hu2
     rw[if_neg (by simp)] at h9
     rw[Po]
     exact hide h9
    have HA1:=hide (And.intro hoa (And.intro hka (And.intro hna (And.intro hla (And.intro hsa hg1)))))
    have HA2:=hide (And.intro Wx (And.intro hu2 hb2))
    clear HQ5 HQ6 HQL HQ1 Po HQF HQA mm5 mm6 ang ayg Wx hu2 hb2 hO1 hO2 hoa hka hna hla hsa hg1 hu1 hb1 hsz asz HOF qg
    go_wp2_with fail
    rw[←hw2]
    refine(uh HC2).mono ?_
    rintro e w3 ⟨v3,cb,fb,sb,rfl,aiq,hkb,ayh,as1,hsb,hu3,hg3⟩
    obtain⟨vd,ve,hv3⟩:=aiq.slice
    subst hv3
    obtain⟨hsz1,hsz2⟩:=uh Kr
    obtain⟨hoa,hka,hna,hla,hsa,hg1⟩:=uh HA1
    obtain⟨Wx,hu2,hb2⟩:=uh HA2
    obtain⟨HQ5,HQ6,HQL,HQ1,Po,HQF,HQA⟩:=uh HQ
    obtain⟨mm5,mm6,ang⟩:=uh Xz
    obtain⟨k1,k2,k3,k4,k5⟩:=uh HK
    obtain⟨pp1,hpl⟩:=uh HPP
    obtain⟨t1,t2⟩:=uh HT1
    have asz:=(uh HU).lt
    have hb3:au w3 wD.heap.size 165 #[.int .i64 s9.kind,.string s9.name,.int .i64 s9.at_,.slice oa s9.outs.length oc,.slice ka s9.code.length kc,.slice aa s9.args.length ac,.slice va ca.length vc,.slice none 0 0]:=hb2.gr hg3 (fun e9=>hne1 (Option.some.inj e9))
    have c73:=hb3.cell (i:=7) (v:=.slice none 0 0) rfl
    have z73:=hb3.free 7
    obtain⟨w4,hw4⟩:∃z,z=w3.setCell ⟨wD.heap.size,7,none⟩ (.slice vd cb.length ve):=⟨_,rfl⟩
    have abh:w3.grownBy w4 (some wD.heap.size):=by rw[hw4];exact ap4 _ _ _ _
    have hb4:au w4 wD.heap.size 165 #[.int .i64 s9.kind,.string s9.name,.int .i64 s9.at_,.slice oa s9.outs.length oc,.slice ka s9.code.length kc,.slice aa s9.args.length ac,.slice va ca.length vc,.slice vd cb.length ve]:=by rw[hw4];exact hb3.set 7 _
    have hu4:au w4 ub 130 #[.slice (some ⟨g,0,none⟩) L6 bc,.int .i64 (J2:Int)]:=hu3.gr abh (fun e9=>hne2 (Option.some.inj e9))
    have a3f:w2.heap.size=w1.heap.size:=by rw[hw2];simp[World.setCell]
    have a3g:w4.heap.size=w3.heap.size:=by rw[hw4];simp[World.setCell]
    have hsF:=hg1.size
    have a3h:=hg3.size
    have hsr:=(uh Uc).size
    have afl:wr.grownBy w4 (some ub):=by
     refine⟨abh.os.trans (hg3.os.trans (Wx.os.trans (hg1.os.trans (uh Uc).os))),abh.tape.trans (hg3.tape.trans (Wx.tape.trans (hg1.tape.trans (uh Uc).tape))),abh.output.trans (hg3.output.trans (Wx.output.trans (hg1.output.trans (uh Uc).output))),by omega,fun k hk hne=>?_⟩
     refine(abh.block k (by omega) (fun e9=>?_)).trans ((hg3.block k (by omega) hne).trans ((Wx.block k (by omega) (fun e9=>?_)).trans ((hg1.block k (by omega) hne).trans ((uh Uc).block k hk hne))))
     ·have:=Option.some.inj e9;omega
     ·have:=Option.some.inj e9;omega
    have hFA:∀bs,(∀x,x∈bs->wF.heap.size<=x∧x<w1.heap.size)->Fr bs w1 w4:=fun bs h x hx=>by
     obtain⟨h1,h2⟩:=h x hx
     refine(abh.block x (by omega) (fun e9=>?_)).trans ((hg3.block x (by omega) (fun e9=>?_)).trans (Wx.block x (by omega) (fun e9=>?_)))
     ·have:=Option.some.inj e9;omega
     ·have:=Option.some.inj e9;omega
     ·have:=Option.some.inj e9;omega
    have hFB:∀bs,(∀x,x∈bs->w2.heap.size<=x∧x<w3.heap.size)->Fr bs w3 w4:=fun bs h x hx=>by
     obtain⟨h1,h2⟩:=h x hx
     refine abh.block x (by omega) (fun e9=>?_)
     have:=Option.some.inj e9;omega
    have ayi:=(hoa.L9 (hFA _ (fun x hx=>World.ownsRow.lt hoa x (iq.1 hx)))).low (Nat.zero_le _)
    have ayj:=hka.fr (hFA _ (fun x hx=>⟨hla x hx,hka.lt x hx⟩))
    have ayk:=(aiq.L9 (hFB _ (fun x hx=>World.ownsRow.lt aiq x (iq.1 hx)))).low (Nat.zero_le _)
    have ayl:=hkb.fr (hFB _ (fun x hx=>⟨as1 x hx,hkb.lt x hx⟩))
    obtain⟨c8,hc8⟩:∃c:Raw 8,c.1=[.int .i64 s9.kind,.string s9.name,.int .i64 s9.at_,.slice oa s9.outs.length oc,.slice ka s9.code.length kc,.slice aa s9.args.length ac,.slice va ca.length vc,.slice vd cb.length ve]:=⟨⟨[.int .i64 s9.kind,.string s9.name,.int .i64 s9.at_,.slice oa s9.outs.length oc,.slice ka s9.code.length kc,.slice aa s9.args.length ac,.slice va ca.length vc,.slice vd cb.length ve],by simp,by intro u hu;simp only[List.mem_cons,List.not_mem_nil,or_false] at hu;rcases hu with rfl|rfl|rfl|rfl|rfl|rfl|rfl|rfl<;>rfl⟩,rfl⟩
    have Xy:Au W0 w4 (.node s9 a b .nil) [c8] (gu (.slice va ca.length vc)++fa++(gu (.slice vd cb.length ve)++fb)++[]) (subs[j]++sa++sb++[]):=⟨Bc[j].1,.slice va ca.length vc,.slice vd cb.length ve,c8,[],ca,cb,fa,fb,[],subs[j],sa,sb,[],rfl,by rw[hc8,t2];rfl,t1,⟨ayi,ayj⟩,⟨ayk,ayl⟩,⟨rfl,rfl,rfl⟩,rfl,rfl⟩
    have hA3:∀x,x∈gu (.slice va ca.length vc)++fa->wF.heap.size<=x∧x<w1.heap.size:=fun x hx=>by
     rcases List.mem_append.1 hx with h9|h9
     ·exact World.ownsRow.lt hoa x (iq.1 h9)
     ·exact⟨hla x h9,hka.lt x h9⟩
    have hB3:∀x,x∈gu (.slice vd cb.length ve)++fb->w2.heap.size<=x:=fun x hx=>by
     rcases List.mem_append.1 hx with h9|h9
     ·exact(World.ownsRow.lt aiq x (iq.1 h9)).1
     ·exact as1 x h9
    have hfn:(gu (.slice va ca.length vc)++fa++(gu (.slice vd cb.length ve)++fb)++[]).Nodup:=by
     rw[List.append_nil,List.nodup_append]
     refine⟨hna,ayh,fun x g1 y g2 e9=>?_⟩
     have h1:=hA3 x g1
     have h2:=hB3 y g2
     omega
    have anh:∀x,x∈(gu (.slice va ca.length vc)++fa++(gu (.slice vd cb.length ve)++fb)++[])->wr.heap.size<=x:=fun x hx=>by
     rw[List.append_nil] at hx
     rcases List.mem_append.1 hx with h9|h9
     ·have:=hA3 x h9;omega
     ·have:=hB3 x h9;omega
    have hdj:∀x,x∈gu u3++fp->x∉(gu (.slice va ca.length vc)++fa++(gu (.slice vd cb.length ve)++fb)++[]):=fun x hx h8=>by
     have h7:=anh x h8
     rcases List.mem_append.1 hx with h9|h9
     ·have:=(World.ownsRow.lt k1 x (iq.1 h9)).2;omega
     ·have:=k2.lt x h9;omega
    have k1F:=k1.L9 (Lu (uh HU) afl k1.tyR (by decide))
    have k2F:=k2.fr (Lu (uh HU) afl k2.typ (by decide))
    have Yz:=(uh HO).L9 (Lu (uh HU) afl (uh HO).tyR (by decide))
    have hA:Below w4.heap.size w4 (w4.alloc (.cells #[.int .i64 s9.kind,.string s9.name,.int .i64 s9.at_,.slice oa s9.outs.length oc,.slice ka s9.code.length kc,.slice aa s9.args.length ac,.slice va ca.length vc,.slice vd cb.length ve] 165)):=(Below.refl _ _).alloc (Nat.le_refl _) _
    have asw:cp.length<=1000000:=by
     have h9:=k2.len
     omega
    have HOA:=hide (k1F.below hA)
    have Ip:Hid (w.heap.size<=(w4.alloc (.cells #[.int .i64 s9.kind,.string s9.name,.int .i64 s9.at_,.slice oa s9.outs.length oc,.slice ka s9.code.length kc,.slice aa s9.args.length ac,.slice va ca.length vc,.slice vd cb.length ve] 165)).heap.size):=hide (Nat.le_trans (uh HG).size (Nat.le_trans afl.size hA.size))
    have Oi:Hid ((cp.length+1)*152<=140737488355328):=by refine hide ?_;omega
    have Qq:Hid (∀v5 w5,dw uq w5 w.heap.size v5 (cp++[c8])->(w4.alloc (.cells #[.int .i64 s9.kind,.string s9.name,.int .i64 s9.at_,.slice oa s9.outs.length oc,.slice ka s9.code.length kc,.slice aa s9.args.length ac,.slice va ca.length vc,.slice vd cb.length ve] 165)).grownBy w5 u3.ownBlock->(∀b,v5.ownBlock=some b->u3.ownBlock=some b∨(w4.alloc (.cells #[.int .i64 s9.kind,.string s9.name,.int .i64 s9.at_,.slice oa s9.outs.length oc,.slice ka s9.code.length kc,.slice aa s9.args.length ac,.slice va ca.length vc,.slice vd cb.length ve] 165)).heap.size<=b)->∃(p' r':BF) (cp':List (Raw 8)) (fp' sp':List Nat),Hid (J2=i+p'.flat.length∧p'.app r'=t∧r'.wf∧body.drop J2=r'.flat++rest)∧Hid (dw uq w5 w.heap.size v5 cp'∧Au W0 w5 p' cp' fp' sp'∧(gu v5++fp').Nodup∧(∀b,b∈fp'->w.heap.size<=b)∧∀x,sp'.count x<=((subs.drop i).take p'.flat.length).flatten.count x)∧Hid (au w5 ub 130 #[.slice (some ⟨g,0,none⟩) L6 bc,.int .i64 (J2:Int)])∧Hid (dw zh w5 0 (.slice (some ⟨g,0,none⟩) L6 bc) Bc)∧Hid (w.grownBy w5 (some ub))):=by
     refine hide (fun v5 w5 o5 g5 n5=>?_)
     obtain⟨x1,x2⟩:=aip k1F k2F k3 Xy hfn hdj hA o5 g5 n5
     have huA:=hu4.below hA hu4.lt
     have hrow:∀b9,u3.ownBlock=some b9->b9≠ub:=fun b9 h9 e9=>by
      subst e9
      exact dw.Aw (uh HOA) huA (by decide) h9
     have hgg:=O9 (uh HG) afl
     refine⟨_,r,_,_,_,⟨by rw[HQF];omega,HQA,mm6,HQ6⟩,⟨o5,x1,x2,fun b9 jc=>?_,fun x=>?_⟩,huA.gr g5 (fun e9=>hrow ub e9.symm rfl),(Yz.below hA).L9 (fun b9 jc=>g5.block b9 ((Yz.below hA).tyR.lt b9 jc) (fun e9=>dw.Aw (uh HOA) (show au _ b9 60 _ from ((Yz.below hA).cellT (iq.1 jc)).choose_spec) (by decide) e9.symm)),⟨g5.os.trans (hA.os.trans hgg.os),g5.tape.trans (hA.tape.trans hgg.tape),g5.output.trans (hA.output.trans hgg.output),Nat.le_trans (uh Ip) g5.size,fun k hk hne=>?_⟩⟩
     ·rcases List.mem_append.1 jc with h9|h9
      ·exact k4 b9 h9
      ·exact Nat.le_trans (uh HG).size (anh b9 h9)
     ·have hjj:i+p.flat.length=j:=pp1.symm
      have h9:=a3c subs i p.flat.length a.flat.length b.flat.length x (by omega)
      have h7:subs[i+p.flat.length]'(by omega)=subs[j]:=by congr 1
      rw[HQF]
      have h8:=k5 x
      have h6:=hsa x
      have h5:=hsb x
      rw[HQ1] at h5
      rw[h7] at h9
      simp only[hjj] at h9
      simp only[List.count_append,List.append_nil]
      omega
     ·refine(g5.block k (Nat.lt_of_lt_of_le hk (Nat.le_trans hgg.size hA.size)) (fun e9=>?_)).trans ((hA.block k (Nat.lt_of_lt_of_le hk hgg.size)).trans (hgg.block k hk hne))
      have h9:=(World.ownsRow.lt k1 k e9.symm).1
      omega
    have g0:=hb3.cell (i:=0) (v:=.int .i64 s9.kind) rfl
    have g1:=hb3.cell (i:=1) (v:=.string s9.name) rfl
    have g2:=hb3.cell (i:=2) (v:=.int .i64 s9.at_) rfl
    have g3:=hb3.cell (i:=3) (v:=.slice oa s9.outs.length oc) rfl
    have g4:=hb3.cell (i:=4) (v:=.slice ka s9.code.length kc) rfl
    have g5:=hb3.cell (i:=5) (v:=.slice aa s9.args.length ac) rfl
    have g6:=hb3.cell (i:=6) (v:=.slice va ca.length vc) rfl
    have HC8:=hide hc8
    have HJJ:Hid (j<J2∧J2<=L6):=hide ⟨by omega,by omega⟩
    clear aiq hkb ayh as1 hsb hu3 hg3 hsz1 hsz2 hoa hka hna hla hsa hg1 Wx hu2 hb2 HQ5 HQ6 HQL HQ1 Po HQF HQA mm5 mm6 ang k1 k2 k3 k4 k5 pp1 hpl t1 t2 asz hb3 abh hb4 hu4 a3f a3g hsF a3h hsr afl hFA hFB ayi ayj ayk ayl Xy hA3 hB3 hfn anh hdj k1F k2F Yz hA asw hc8 HQ Xz HPP HT1 HA1 HA2 HC2 HK HO HG HU
    subst hw4
    go_wp2_with (at_builtin;go_must (refine l9 uq _ rfl _ _ rfl w.heap.size _ cp rfl (uh HOA) _ c8 rfl (fun k u hu=>by rw[World.cell?_alloc_at _ _ _ _ (by simp[World.setCell])];have hu':c8.1[k]?=some u:=hu;rw[uh HC8] at hu';simpa using hu') (uh Oi) (uh Ip) ?_))
    intro v5 w5 o5 h5g n5
    have Dz:=hide (uh Qq v5 w5 o5 h5g (by simpa[World.setCell] using n5))
    have HU5:Hid (w5.cell? ⟨ub,1,none⟩=some (.int .i64 (J2:Int))):=by
     obtain⟨_,_,_,_,_,_,_,h9,_⟩:=uh Dz
     exact hide ((uh h9).cell (i:=1) rfl)
    clear o5 h5g n5
    go_wp2
    go_roundw
    case rel =>
     obtain⟨p',r',cp',fp',sp',y1,y2,y3,y4,y5⟩:=uh Dz
     exact⟨J2,p',r',cp',fp',sp',(uh HJJ).2,y1,y2,y3,y4,y5⟩
    case measure =>
     have h9:=uh HJJ
     simp only[uh HU5,uh HUJ,Int.toNat_natCast]
     exact Nat.sub_lt_sub_left (Nat.lt_of_lt_of_le h9.1 h9.2) h9.1
end Go.Proofs.YtlcgnbcgmljpaaaGreat
