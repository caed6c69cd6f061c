import Derived.Deep.RegionHeld3
import Derived.Test.YtfeejeflmcapoaaGreatDoorRIA
import Derived.Test.YtfeejeflmcapoaaGreatDoorM15
import Derived.Test.YtfeejeflmcapoaaGreatDoorRIH
import Derived.Test.YtfeejeflmcapoaaGreatDoorData
import Derived.Test.YtfeejeflmcapoaaGreatDoorProg
import Derived.WalkLawsBesides
import Derived.Deep.LoopGhost
import Derived.Deep.RegionWith
import Derived.RegionTactic
import Derived.BigQuiet
import Derived.Deep.QuietTactic
import Derived.Test.YtfeejeflmcapoaaGreatDoorImplFresh
set_option linter.unusedSimpArgs false
set_option linter.unusedVariables false
set_option maxHeartbeats 8000000
namespace Go.Proofs.YtfeejeflmcapoaaGreatDoor
open Go.RowKit Go.Shelf
theorem aur {l n:Nat} {P:Program} {ops:Array Oper} {Q:Exit->Act->bf->Prop} {i:Nat} {K:Act->bf->Prop} {a:Act} {w:bf} (hd:∀(i:Nat) (o:Oper),ops[i]?=some o->∀c,o.op≠.defer c) (hno:¬LetsOut Q) (h:wpOp P ops Q i K a w):wpOpIn (Fence.wide.inRound l) n P ops Q i K a w:=by
 unfold wpOp at h;unfold wpOpIn
 cases ho:ops[i]? with
 | none=>rw[ho] at h;exact h
 | some o =>
  rw[ho] at h;simp only at h ⊢
  split
  ·rename_i hw
   rw[gu hw] at h;rcases h with h|h
   ·refine⟨fun f _=>trivial,?_⟩
    rw[show (Fence.wide.inRound l).round=some l from rfl,Oper.semAt_some l _ o (hd i o ho)];unfold Oper.wp at h;generalize (execOp a.eval o).run P w=r at h ⊢
    cases r with
    | ok x w' =>
     cases x with
     | enter f args=>exact⟨fun h9=>(by cases h9),callsIn_wide.2 h⟩
     | row row args=>exact⟨fun h9=>(by cases h9),fun c cs _=>let ⟨v,w9,r,s⟩:=h c cs;⟨v,w9,r,stepsIn_wide.2 s⟩⟩
     | round=>exact h.elim
     | _=>exact h
    | halt x w'=>cases x<;>exact h
   ·exact absurd h.2 hno
  ·rename_i hw
   rw[ay hw] at h;exact⟨fun f _=>trivial,h⟩
theorem ahu {l n:Nat} {P:Program} {md:Region.Mode} {ops:Array Oper} {Q:Exit->Act->bf->Prop} (hd:∀(i:Nat) (o:Oper),ops[i]?=some o->∀c,o.op≠.defer c) (hno:¬LetsOut Q):∀(fuel:Nat) (listed:Array Bool) (a:Act) (w:bf),wpAny P md ops Q fuel listed a w->wpAnyIn (Fence.wide.inRound l) n P md ops Q fuel listed a w
 | 0,_,_,_,h=>h
 | fuel+1,_,_,_,h=>⟨h.1,fun i hi=>wpOpIn_mono (fun a' w' h'=>ahu hd hno fuel _ a' w' h') (aur hd hno (h.2 i hi))⟩
theorem aps {l n id:Nat} {P:Program} {ops:Array Oper} {Q:Exit->Act->bf->Prop} {a:Act} {w:bf} {S:bf->Prop} (hm:P.follows .mixedOrders=true) (hd:∀(i:Nat) (o:Oper),ops[i]?=some o->∀c,o.op≠.defer c) (hno:¬LetsOut Q) (hS:S w.drew)
  (h:S w.drew->wpAnyH P .any ops Q S ops.size (Array.replicate ops.size false) a w.drew):(Code.region id ops true).wpIn (Fence.wide.inRound l) n P Q a w :=
 wpIn_region_any hm (ahu hd hno _ _ _ _ (wpAny_of_held _ _ _ _ (h hS)))
theorem agv {P:Program} {ops:Array Oper} {Q:Exit->Act->bf->Prop} {md:Region.Mode} {S:bf->Prop} {i:Nat} {d:Tmp} {oi:Oper} {v:Value} {fuel:Nat} {listed:Array Bool} {a:Act} {w:bf} (hi:ops[i]?=some oi) (hd:oi.dst=some d)
  (hs:Region.noSelect ops=true) (hf:Region.free md ops listed i=true) (hr:(Region.ready md ops listed).contains i=true) (hQ:∀c a w,Q (.panic c) (a.put (some d) v) w->Q (.panic c) a w) (hy:YieldsIf P ops S oi v a) (hS:S w)
  (h:wpAnyH P md ops Q S fuel (listed.setIfInBounds i true) (a.put (some d) v) w):wpAnyH P md ops Q S (fuel+1) listed a w :=
 wpAnyH_take hi hs hf hr (by rw[hd];exact hQ) hy hS (by rw[hd];exact h)
attribute [local go_sem] Oper.semAt_some
theorem ax7 (s ln:dh) (w:bf) (hs:s.size<=1048577) (h:Qv (Lib.trimSuffix (bL s) [10])=ln):Calls Tryz.prog 14 #[.string s,.string ⟨#[10]⟩] w fun e w'=>e=.returned (.string ln)∧w'=w:=by
 refine(Tryz.strings_TrimSuffix s ⟨#[10]⟩ w (by omega)).mono ?_;rintro e w' ⟨rfl,rfl⟩;exact⟨by rw[←h];rfl,rfl⟩
theorem aus (ln:dh) (w:bf) (hE:Zc w) (hs:ln.size<=1048576):Calls Tryz.prog 13 #[.string ln,.string ⟨#[32]⟩] w fun e w'=>e=.returned (.slice (some ⟨w.heap.size,0,none⟩) (wordsOf 32 ln).length (wordsOf 32 ln).length)∧w'=w.alloc (.cells ((wordsOf 32 ln).map Value.string).toArray 9):=by
 obtain⟨m,hm⟩:=hE.mx;refine(Tryz.strings_Split ln ⟨#[32]⟩ m w (by omega) hm (by decide)).mono ?_;have h1:=aql ⟨#[32]⟩ rfl _ ln rfl;have h2:=Lib.splitB_all ⟨#[32]⟩ (by decide) 0 _ ln rfl;rw[h1] at h2;rintro e w' ⟨rfl,rfl⟩;rw[←h2,h1];exact⟨rfl,rfl⟩
theorem ax8 {w W w3:bf} {N D B:Nat} {code:Int} {v u0:Value} {ks:List dw} {bs:List Nat} (hN:N=w.heap.size) (hw:Below N w W) (h3:Below W.heap.size W w3) (hR:jc W N 24 #[u0]) (hK:W.heap[D]?=some (.deferred (some []))) (hD:N<D) (hB:N<B) (hm:yh Fa Dj B w3 v ks bs) :
  (w3.setCell ⟨N,0,none⟩ v).heap[D]?=some (.deferred (some []))∧((w3.setCell ⟨N,0,none⟩ v).putObj D (.deferred none)).cell? ⟨N,0,none⟩=some v∧RdP ks code w (.returned (.tuple #[.agg #[v],.int .i64 code])) ((w3.setCell ⟨N,0,none⟩ v).putObj D (.deferred none)):=by
 subst hN;have k3:w3.heap[D]?=some (.deferred (some [])):=(h3.block D (Jk.1 hK).1).trans hK;have r3:=hR.below h3 hR.lt;have hset:∀b,b≠w.heap.size->(w3.setCell ⟨w.heap.size,0,none⟩ v).heap[b]?=w3.heap[b]?:=fun b hn=>yx _ _ _ _ (fun e=>hn e)
 have hput:∀b,b≠D->((w3.setCell ⟨w.heap.size,0,none⟩ v).putObj D (.deferred none)).heap[b]?=(w3.setCell ⟨w.heap.size,0,none⟩ v).heap[b]?:=fun b hn=>World.putObj_heap_other hn
 have hz:((w3.setCell ⟨w.heap.size,0,none⟩ v).putObj D (.deferred none)).heap.size=w3.heap.size:=by simp[World.setCell,World.putObj]
 have hb3:Below w.heap.size w w3:=hw.trans (h3.mono hw.size);refine⟨(hset D (by omega)).trans k3,(show jc _ w.heap.size 24 #[v] from (hput _ (by omega)).trans (r3.set 0 v)).cell (i:=0) (v:=v) rfl,v,bs,rfl,yh.ay9 (hm.fr I8 (fun b hb=>(hput b (fun e=>?_)).trans (hset b (by have:=(hm.nd.2 b hb).1;omega))) (by omega)) (by omega),⟨hb3.os,hb3.tape,hb3.output,by rw[hz];exact hb3.size,fun k hk=>(hput k (by omega)).trans ((hset k (by omega)).trans (hb3.block k hk))⟩⟩;obtain⟨cur,T,h9⟩:=hm.aq0 b hb;rw[e,k3] at h9
 cases h9
set_option maxRecDepth 100000 in
theorem aqd (t:dh) (w:bf) (hE:Zc w) (hs:t.size<=1048576):Calls Tryz.prog 5 #[.string t] w (RdP (L9 t).1 (L9 t).2 w):=by
 obtain⟨PO,Gv⟩:∃PO:Ending->bf->Prop,PO=RdP (L9 t).1 (L9 t).2 w:=⟨_,rfl⟩;rw[←Gv];have Dn:=hide Gv;clear Gv;obtain⟨W3,hW3⟩:∃z,z=(((w.alloc (.cells #[.slice none 0 0] 24)).alloc (.map #[] 0)).alloc (.cells #[.slice none 0 0,.map (some (w.heap.size+1))] 35)).alloc (.cells #[.pointer (some ⟨w.heap.size+1+1,0,none⟩)] 32):=⟨_,rfl⟩;obtain⟨W0,hW0⟩:∃z,z=W3.alloc (.cells #[.string t] 9):=⟨_,rfl⟩;have z3:W3.heap.size=w.heap.size+4:=by rw[hW3];simp
 have z0:W0.heap.size=w.heap.size+5:=by rw[hW0,Ed,z3]
 have hbw:Below w.heap.size w W0:=by
  rw[hW0,hW3];exact(((((gy _ w).alloc (gq _) _).alloc (by simp) _).alloc (by simp<;>omega) _).alloc (by simp<;>omega) _).alloc (by simp<;>omega) _
 have a1:Below (w.heap.size+1) (w.alloc (.cells #[.slice none 0 0] 24)) W0:=by
  rw[hW0,hW3];exact((((gy _ (w.alloc (.cells #[.slice none 0 0] 24))).alloc (by simp) _).alloc (by simp) _).alloc (by simp<;>omega) _).alloc (by simp<;>omega) _
 have a2:Below (w.heap.size+2) ((w.alloc (.cells #[.slice none 0 0] 24)).alloc (.map #[] 0)) W0:=by
  rw[hW0,hW3];exact(((gy _ ((w.alloc (.cells #[.slice none 0 0] 24)).alloc (.map #[] 0))).alloc (by simp) _).alloc (by simp) _).alloc (by simp<;>omega) _
 have a3:Below (w.heap.size+3) (((w.alloc (.cells #[.slice none 0 0] 24)).alloc (.map #[] 0)).alloc (.cells #[.slice none 0 0,.map (some (w.heap.size+1))] 35)) W0:=by
  rw[hW0,hW3];exact((gy _ (((w.alloc (.cells #[.slice none 0 0] 24)).alloc (.map #[] 0)).alloc (.cells #[.slice none 0 0,.map (some (w.heap.size+1))] 35))).alloc (by simp) _).alloc (by simp) _
 have a4:Below (w.heap.size+4) W3 W0:=by rw[hW0];exact(gy _ _).alloc (by omega) _
 have bR:jc W0 w.heap.size 24 #[.slice none 0 0]:=(og w _ _).below a1 (by omega)
 have bP:Qq Tryz.prog 9 (.int .i64 0) W0 (w.heap.size+1) 0 (fun _=>.int .i64 0):=by
  have h9:=Qq.made (P:=Tryz.prog) (k:=9) (z:=.int .i64 0) (w.alloc (.cells #[.slice none 0 0] 24));rw[Ed] at h9;exact h9.block (a2.block _ (by omega))
 have bM:jc W0 (w.heap.size+1+1) 35 #[.slice none 0 0,.map (some (w.heap.size+1))]:=by
  have h9:=og ((w.alloc (.cells #[.slice none 0 0] 24)).alloc (.map #[] 0)) #[.slice none 0 0,.map (some (w.heap.size+1))] 35;rw[Ed,Ed] at h9;exact h9.below a3 (by omega)
 have bQ:jc W0 (w.heap.size+1+1+1) 32 #[.pointer (some ⟨w.heap.size+1+1,0,none⟩)]:=by
  have h9:=og (((w.alloc (.cells #[.slice none 0 0] 24)).alloc (.map #[] 0)).alloc (.cells #[.slice none 0 0,.map (some (w.heap.size+1))] 35)) #[.pointer (some ⟨w.heap.size+1+1,0,none⟩)] 32;rw[Ed,Ed,Ed,←hW3] at h9;exact h9.below a4 (by omega)
 have bS:jc W0 W3.heap.size 9 #[.string t]:=by rw[hW0];exact og _ _ _
 have Hy:Hid (Calls Tryz.prog 11 #[.string t] W3 fun e w'=>e=.returned (.func (.func 27) #[] #[.pointer (some ⟨W3.heap.size,0,none⟩)])∧w'=W0):=hide (by rw[hW0];exact aza t W3);obtain⟨Bs,hBs⟩:∃z,z=W3.heap.size:=⟨_,rfl⟩;rw[←hBs] at Hy bS z3;obtain⟨pb,hpb⟩:∃z,z=w.heap.size+1:=⟨_,rfl⟩;obtain⟨rb,hrb⟩:∃z,z=w.heap.size+1+1:=⟨_,rfl⟩;obtain⟨pr,hpr⟩:∃z,z=w.heap.size+1+1+1:=⟨_,rfl⟩;have HN:Hid (pb=w.heap.size+1∧rb=w.heap.size+2∧pr=w.heap.size+3∧Bs=w.heap.size+4∧W0.heap.size=w.heap.size+5):=hide ⟨hpb,hrb,hpr,z3,z0⟩;have HI0:Hid (RlI t W0 rb pb Bs 0 W0):=hide ⟨.slice none 0 0,[],⟨by rw[hrb,hpb];exact bM,yh.nil _ _ _ _,by rw[hpb];exact bP,gq _⟩,But.refl _ _⟩;have Ah:Hid (jc W0 w.heap.size 24 #[.slice none 0 0]∧jc W0 pr 32 #[.pointer (some ⟨rb,0,none⟩)]∧jc W0 Bs 9 #[.string t]∧Below w.heap.size w W0):=hide ⟨bR,by rw[hpr,hrb];exact bQ,bS,hbw⟩;have HE:=hide hE;have HS:=hide hs;have HW3:=hide hW3;have hmm:=@run_makeMap Tryz.prog;clear hE hs hW3 hW0 z3 z0 hbw a1 a2 a3 a4 bR bP bM bQ bS hBs;refine(callsIn_wide (n:=8)).1 ?_;refine callsIn_of_wp_marks Tryz.func5 rfl trivial ?_ rfl;simp only[Tryz.ntmps5,List.size_toArray,uf,A8,Nat.reduceAdd,Nat.reduceSub,Array.replicate_succ,Array.replicate_zero,List.push_toArray,List.append_toArray,Gu,Fe];clear hpb hrb hpr;gi_wp2;rw[←uh HW3];have hpb:=(uh HN).1;have hrb:=(uh HN).2.1;have hpr:=(uh HN).2.2.1;rw[←hpb,show pb+1=rb from by omega,show rb+1=pr from by omega];clear hpb hrb hpr;refine⟨trivial,?_⟩;refine(callsIn_wide.2 (uh Hy)).mono ?_;rintro e9 w9 ⟨rfl,Qm⟩;rw[Qm];clear Qm;gi_wp2;refine aup (Bs:=Bs) (gf:=27) (L:=linesT t) rfl (enters_of Tryz.func27 (by kernel_rfl) rfl) rfl (by have:=uh HN;omega) (RlI t W0 rb pb Bs) (RlI.own (by have:=uh HN;omega) (by have:=uh HN;omega)) (RlI.set (by have:=uh HN;omega) (by have:=uh HN;omega) (by have:=uh HN;omega)) (uh HI0) (ax4 t Bs 7 (by decide) W0 (uh Ah).2.2.1 (uh HS))
  (fun x=>{ tmps:=#[.string t,undef,.pointer (some ⟨w.heap.size,0,none⟩),.int .i64 0,.pointer (some ⟨pr,0,none⟩),.string x,undef,.map (some pb),.agg #[.slice none 0 0,.map (some pb)],.pointer (some ⟨rb,0,none⟩),.string t,.func (.func 27) #[] #[.pointer (some ⟨Bs,0,none⟩)],.string x,undef,undef,undef,undef,undef,undef,undef,undef,undef,undef,undef,undef,undef,undef,undef,undef,undef,undef,undef,undef],defers:=[] }) ?assign ?body ?done
 case assign =>
  intro l x W K hK;gi_wp2;exact hK
 case body =>
  intro l k hk W hI;obtain⟨hk',e1,e2,e3⟩:=bbh t (uh HS) k hk;have HWD:Hid (Uy t (k+1)=Vf (Uy t k) (wordsOf 32 (Hl t)[k])):=hide (aqn t k hk');have HTR:Hid (∀W,Calls Tryz.prog 14 #[.string (linesT t)[k],.string ⟨#[10]⟩] W fun e w'=>e=.returned (.string (Hl t)[k])∧w'=W):=hide (fun W=>ax7 _ _ W e3 e1);generalize (linesT t)[k]=lt at HTR ⊢;generalize (Hl t)[k]=ln at HTR HWD e2;obtain⟨mv,bs,hIr,X8⟩:=id hI;have hbW:Below w.heap.size w W:=(uh Ah).2.2.2.trans (X8.below w.heap.size (by have:=uh HN;omega) (fun b hb=>by simp only[ql,xg,xk] at hb;have:=uh HN;omega));have hEW:=(uh HE).below hbW (uh HE).env.three;have hpc:W.cell? ⟨pr,0,none⟩=some (.pointer (some ⟨rb,0,none⟩)):=((X8.blk (uh Ah).2.1 (by simp only[ql,xg,xk];have:=uh HN;omega))).cell (i:=0) (v:=.pointer (some ⟨rb,0,none⟩)) rfl;have HSP:=hide (aus ln W.drew (hEW.below ((gy W.heap.size W).drew) hEW.env.three) e2);obtain⟨Wq,hWq⟩:∃z,z=W.drew.alloc (.cells ((wordsOf 32 ln).map Value.string).toArray 9):=⟨_,rfl⟩;have hbq:Below W.heap.size W Wq:=by rw[hWq];exact((gy _ _).drew).alloc (gq _) _
  have hws:=zq ln e2;have hq1:iy 1 16 wz 0 Wq (.slice (some ⟨W.heap.size,0,none⟩) (wordsOf 32 ln).length (wordsOf 32 ln).length) (wordsOf 32 ln):=by rw[hWq];exact a2q _ W.drew _ rfl hws.1 hws.2
  have HRD:=hide (a6p (hIr.below hbq) (by have:=uh HN;omega) (by have:=uh HN;omega) (a2p t k (uh HS)) (wordsOf 32 ln) _ (hEW.below hbq hEW.env.three) hq1 hws.2 (Bg.2 (Aj 32 ln)) hws.1);rw[←hWq] at HSP
  have ai1:Hid (Calls Tryz.prog 12 #[.pointer (some ⟨rb,0,none⟩),.slice (some ⟨W.heap.size,0,none⟩) (wordsOf 32 ln).length (wordsOf 32 ln).length] Wq (fun e W'=>(∃v,e=.returned v)∧W'.cell? ⟨pr,0,none⟩=some (.pointer (some ⟨rb,0,none⟩))∧Hid (KeepsFrom W0.heap.size W W'∧W'.heap[Bs]?=W.heap[Bs]?∧RlI t W0 rb pb Bs (k+1) W'))):=hide ((uh HRD).mono (by
   rintro e W' ⟨hv,mv',bs',h1,h2⟩;have h3:=(Nh.Ws hbq hIr.size).trans h2;rw[←uh HWD] at h1;exact⟨hv,(World.cell?_of_block (w:=W) (h3.old pr (by have:=uh HN;omega) (by simp only[ql,xg,xk];have:=uh HN;omega))).trans hpc,hide ⟨⟨h3.size,fun i o hi h9 h8=>h3.oth i o hi h9 h8⟩,h3.old Bs (by have:=uh HN;omega) (by simp only[ql,xg,xk];have:=uh HN;omega),RlI.step hI h3 h1⟩⟩))
  have hpq:Wq.cell? ⟨pr,0,none⟩=some (.pointer (some ⟨rb,0,none⟩)):=(hbq.cell (p:=⟨pr,0,none⟩) (qj (show pr<W0.heap.size by have:=uh HN;omega) X8.size)).trans hpc;have hpl:pr<W.heap.size:=qj (by have:=uh HN;omega) X8.size;generalize (wordsOf 32 ln).length=wn at HSP ai1;clear HRD hI hIr X8 hbW hEW hWq hbq hws hq1 HWD e1 e2 e3 hk' hk;gi_wp2;refine aps (S:=fun w'=>w'.cell? ⟨pr,0,none⟩=some (.pointer (some ⟨rb,0,none⟩))) (by kernel_rfl) ?_ ?_ hpc (fun hHeld=>?_)
  ·intro i9 o9 h9
   have h8:=Array.mem_of_getElem? h9;simp only[List.mem_toArray,ql,xg,xk] at h8;rcases h8 with rfl|rfl|rfl|rfl|rfl<;>intro c9 hc9<;>cases hc9
  ·rintro⟨a9,w9,h9⟩
   exact h9
  refine agv (i:=0) (d:=13) (v:=.pointer (some ⟨rb,0,none⟩)) rfl rfl (by kernel_rfl) (by kernel_rfl) (by kernel_rfl) (fun _ _ _ h=>h) (Or.inl ⟨by kernel_rfl,fun w9 hS9=>by have e0:w9.cell? ⟨pr,0,none⟩=some (.pointer (some ⟨rb,0,none⟩)):=hS9;go_simp⟩) hHeld ?_
  try simp only[Act.put,List.setIfInBounds_toArray,List.set_cons_zero,List.set_cons_succ]
  refine agv (i:=1) (d:=14) (v:=_) rfl rfl (by kernel_rfl) (by kernel_rfl) (by kernel_rfl) (fun _ _ _ h=>h) (Or.inl ⟨by kernel_rfl,fun _ _=>rfl⟩) hHeld ?_
  try simp only[Act.put,List.setIfInBounds_toArray,List.set_cons_zero,List.set_cons_succ]
  refine wpAnyH_ready (rs:=[2]) (by kernel_rfl) (by simp) ?_;refine AllReadyH.cons rfl (fun K hK=>?_) AllReadyH.nil
  go_simp
  refine(uh HTR _).mono ?_;rintro e w8 ⟨rfl,hw8⟩;rw[hw8];clear hw8;refine hK.out _ _ hpc (fun hHeld=>?_);clear hK K
  try simp only[Act.put,List.setIfInBounds_toArray,List.set_cons_zero,List.set_cons_succ]
  refine wpAnyH_ready (rs:=[3]) (by kernel_rfl) (by simp) ?_;refine AllReadyH.cons rfl (fun K hK=>?_) AllReadyH.nil
  go_simp
  refine(uh HSP).mono ?_;rintro e w8 ⟨rfl,hw8⟩;rw[hw8];clear hw8;refine hK.out _ _ hpq (fun hHeld=>?_);clear hK K
  try simp only[Act.put,List.setIfInBounds_toArray,List.set_cons_zero,List.set_cons_succ]
  refine wpAnyH_ready (rs:=[4]) (by kernel_rfl) (by simp) ?_;refine AllReadyH.cons rfl (fun K hK=>?_) AllReadyH.nil
  go_simp
  refine(uh ai1).mono ?_;rintro e w8 ⟨⟨v9,rfl⟩,hp8,HF8⟩;refine hK.out _ _ hp8 (fun hHeld=>?_);clear hK K;refine wpAnyH_done (by kernel_rfl) ?_ _;gi_wp2;exact uh HF8
 case done =>
  intro D W hD hI hK;obtain⟨mv,bs,hIr,X8⟩:=hI;rw[auq t _ (by rw[←apq t,Ad])] at hIr;have hgw:oq qx (Ou t)<=1048576:=jq (a1x t) (uh HS)
  have HRD:Hid (t≠ByteArray.empty->L9 t=if Xl (Ou t)=t then (Ou t,0) else ([],1)):=hide (fun hne=>by
   obtain⟨h1,h2⟩:=axu t hne;unfold L9
   by_cases c:Xl (Ou t)=t
   ·rw[gu c,gu ⟨hne,h1.2 c⟩,h2 (h1.2 c)]
   ·rw[ay c,ay (fun h9=>c (h1.1 h9.2))])
  generalize Ou t=ks at hIr hgw HRD;obtain⟨ma,mc,rfl⟩:=hIr.row.slice;obtain⟨mn,hmn⟩:∃z,z=ks.length:=⟨_,rfl⟩;rw[←hmn] at hIr;clear hmn;have hbW:Below w.heap.size w W:=(uh Ah).2.2.2.trans (X8.below w.heap.size (by have:=uh HN;omega) (fun b hb=>by simp only[ql,xg,xk] at hb;have:=uh HN;omega));have hbR:jc W w.heap.size 24 #[.slice none 0 0]:=X8.blk (uh Ah).1 (by simp only[ql,xg,xk];have:=uh HN;omega);have hbP:=X8.blk (uh Ah).2.1 (show pr∉[rb,pb,Bs] by simp only[ql,xg,xk];have:=uh HN;omega);have q1:=hbP.cell (i:=0) (v:=.pointer (some ⟨rb,0,none⟩)) rfl;have q2:=hIr.box.cell (i:=0) (v:=.slice ma mn mc) rfl;have q3:=hbP.lt;have q4:=hIr.box.lt;have hA:Below W.heap.size W (W.alloc (.cells #[.slice ma mn mc] 24)):=(gy _ _).alloc (gq _) _;obtain⟨WA,hWA⟩:∃z,z=W.alloc (.cells #[.slice ma mn mc] 24):=⟨_,rfl⟩;rw[←hWA] at hA;have hbM:jc WA W.heap.size 24 #[.slice ma mn mc]:=by rw[hWA];exact og _ _ _
  have bep:=hbR.below hA hbR.lt
  have Si:Hid (∀w3,Below WA.heap.size WA w3->(w3.cell? ⟨w.heap.size,0,none⟩=some (.slice none 0 0)∧w3.frozen? ⟨w.heap.size,0,none⟩=false∧w.heap.size<w3.heap.size∧w3.cell? ⟨W.heap.size,0,none⟩=some (.slice ma mn mc))∧(∀code,(w3.setCell ⟨w.heap.size,0,none⟩ (.slice ma mn mc)).heap[D]?=some (.deferred (some []))∧((w3.setCell ⟨w.heap.size,0,none⟩ (.slice ma mn mc)).putObj D (.deferred none)).cell? ⟨w.heap.size,0,none⟩=some (.slice ma mn mc)∧RdP ks code w (.returned (.tuple #[.agg #[.slice ma mn mc],.int .i64 code])) ((w3.setCell ⟨w.heap.size,0,none⟩ (.slice ma mn mc)).putObj D (.deferred none)))∧∀code,(w3.setCell ⟨w.heap.size,0,none⟩ (.slice none 0 0)).heap[D]?=some (.deferred (some []))∧((w3.setCell ⟨w.heap.size,0,none⟩ (.slice none 0 0)).putObj D (.deferred none)).cell? ⟨w.heap.size,0,none⟩=some (.slice none 0 0)∧RdP [] code w (.returned (.tuple #[.agg #[.slice none 0 0],.int .i64 code])) ((w3.setCell ⟨w.heap.size,0,none⟩ (.slice none 0 0)).putObj D (.deferred none))):=hide (fun w3 hb3=>by
   have hW3:Below W.heap.size W w3:=hA.trans (hb3.mono hA.size);have r3:=hbR.below hW3 hbR.lt;have m3:=hbM.below hb3 hbM.lt;refine⟨⟨r3.cell (i:=0) (v:=.slice none 0 0) rfl,r3.free 0,r3.lt,m3.cell (i:=0) (v:=.slice ma mn mc) rfl⟩,fun code=>ax8 (B:=W0.heap.size) rfl hbW hW3 hbR hK (by have:=uh HN;omega) (by have:=uh HN;omega) (hIr.below hW3).row,fun code=>ax8 (B:=W0.heap.size) (bs:=[]) rfl hbW hW3 hbR hK (by have:=uh HN;omega) (by have:=uh HN;omega) (yh.nil _ _ _ _)⟩)
  have HPR:=hide (anw ks hgw (.slice ma mn mc) WA (((uh HE).below hbW (uh HE).env.three).below hA (jq (uh HE).env.three hbW.size)).env (hIr.below hA).row.slC);have HWA:=hide hWA;have x1:=hbM.cell (i:=0) (v:=.slice ma mn mc) rfl;clear hgw hIr X8 hbW hbR hbP hA hbM bep hWA hK hD
  by_cases hne:t=ByteArray.empty
  ·have e0:(t.toList == [])=true:=by rw[afc];exact jf hne
   obtain⟨⟨f1,f2,f3,f4⟩,_,f6⟩:=uh Si WA (gy _ _);obtain⟨g1,g2,g3⟩:=f6 1
   have HF:Hid (PO (.returned (.tuple #[.agg #[.slice none 0 0],.int .i64 1])) ((WA.setCell ⟨w.heap.size,0,none⟩ (.slice none 0 0)).putObj D (.deferred none))):=hide (by
    rw[uh Dn,show L9 t=([],1) from by unfold L9;rw[ay (fun h9=>h9.1 hne)]];exact g3)
   have HG:=hide (And.intro g1 g2);clear g1 g2 g3 f6 Si hne;obtain rfl:=uh HWA;gi_wp2;refine⟨trivial,?_⟩;gi_wp2;refine⟨by simp,.inl ⟨_,_,rfl,run_takeDeferred (uh HG).1,?_⟩⟩;refine⟨.tuple #[.agg #[.slice none 0 0],.int .i64 1],?_,uh HF⟩;simp[results,Tryz.f5,go_sem,(uh HG).2]
  ·have e0:(t.toList == [])=false:=by rw[afc];exact iw hne
   have ai1:=hide (uh HRD hne);clear hne HRD
   gi_wp2_with fail
   rw[←uh HWA];refine⟨trivial,?_⟩;refine(callsIn_wide.2 (uh HPR)).mono ?_;rintro e w3 ⟨rfl,hb3⟩;obtain⟨⟨f1,f2,f3,f4⟩,f5,f6⟩:=uh Si w3 hb3;clear hb3 Si HPR x1 q1 q2 q3 q4 HWA
   by_cases hpt:Xl ks=t
   ·have ep:((Xl ks).toList == t.toList)=true:=by rw[hpt];simp
    have ep2:((Xl ks).toList != t.toList)=false:=by simp only[bne,ep];rfl
    obtain⟨g1,g2,g3⟩:=f5 0
    have HF:Hid (PO (.returned (.tuple #[.agg #[.slice ma mn mc],.int .i64 0])) ((w3.setCell ⟨w.heap.size,0,none⟩ (.slice ma mn mc)).putObj D (.deferred none))):=hide (by
     rw[uh Dn,uh ai1,gu hpt];exact g3)
    have HG:=hide (And.intro g1 g2);clear g1 g2 g3 f5 f6 hpt ai1;generalize Xl ks=p at ep ep2 ⊢;gi_wp2;refine⟨by simp,.inl ⟨_,_,rfl,run_takeDeferred (uh HG).1,?_⟩⟩;refine⟨.tuple #[.agg #[.slice ma mn mc],.int .i64 0],?_,uh HF⟩;simp[results,Tryz.f5,go_sem,(uh HG).2]
   ·have ep:((Xl ks).toList == t.toList)=false:=by rw[zk];exact iw hpt
    have ep2:((Xl ks).toList != t.toList)=true:=by simp only[bne,ep];rfl
    obtain⟨g1,g2,g3⟩:=f6 1
    have HF:Hid (PO (.returned (.tuple #[.agg #[.slice none 0 0],.int .i64 1])) ((w3.setCell ⟨w.heap.size,0,none⟩ (.slice none 0 0)).putObj D (.deferred none))):=hide (by
     rw[uh Dn,uh ai1,ay hpt];exact g3)
    have HG:=hide (And.intro g1 g2);clear g1 g2 g3 f5 f6 hpt ai1;generalize Xl ks=p at ep ep2 ⊢;gi_wp2;refine⟨by simp,.inl ⟨_,_,rfl,run_takeDeferred (uh HG).1,?_⟩⟩;refine⟨.tuple #[.agg #[.slice none 0 0],.int .i64 1],?_,uh HF⟩;simp[results,Tryz.f5,go_sem,(uh HG).2]
open Go.RowKit
def Q9 (w:bf) (e:Ending) (w':bf):Prop:=e=.returned (.bool true)∧Below w.heap.size w w'
theorem ax9 (t:ku) (w:bf) :
  Calls Tryz.prog 160 #[.agg #[.int .i64 t.op,.int .i64 t.val,.string t.name],.agg #[.int .i64 t.op,.int .i64 t.val,.string t.name]] w (Q9 w):=by
 obtain⟨op,val,s⟩:=t;go_enter Tryz.func160,Tryz.ntmps160;go_wp2;go_ret;exact⟨rfl,((gy _ _).alloc (gq _) _).alloc (by simp) _⟩
theorem below_drewN {B:Nat} {w w':bf} (h:Below B w w') (n:Nat):Below B w (w'.drewN n):=by
 induction n with
 | zero=>exact h
 | succ n ih=>exact ih.drew
theorem akc (xs:List ku) (v u:Value) (w:bf) (hv:iy 3 32 Gp 0 w v xs) (hu:iy 3 32 Gp 0 w u xs) :
  Calls Tryz.prog 132 #[v,u] w (Q9 w):=by
 obtain⟨a,cap,rfl,_,hn,hx⟩:=hv;obtain⟨a2,cap2,rfl,_,_,hy⟩:=hu;unfold Len at hn;have HX:=hide hx;have HY:=hide hy;clear hx hy;go_enter Tryz.func132,Tryz.ntmps132;go_wp2
 go_loopg [5] xs.length (fun g i wr=>∃(k:Nat),k<=xs.length∧g=xs.length-k∧i=.int .i64 k∧Below w.heap.size w wr)
 case atStart=>exact⟨0,jg _,by omega,rfl,gy _ _⟩
 case round =>
  obtain⟨k,hk,hg,rfl,hbl⟩:=hrel;have HG:=hide hg;clear hg
  by_cases hlt:k<xs.length
  ·obtain⟨b,o,cs,rfl,_,hb,hcs,hc,hR⟩:=uh HX k hlt
   have hc:∀j (hj:j<cs.length),wr.cell? ⟨b,o+k*3+j,none⟩=some cs[j]:=fun j hj=>by rw[hbl.cell (p:=⟨b,_,none⟩) hb];exact hc j hj
   obtain⟨b2,o2,cs2,rfl,_,hb2,hcs2,hc2,hR2⟩:=uh HY k hlt;have hc2:∀j (hj:j<cs2.length),wr.cell? ⟨b2,o2+k*3+j,none⟩=some cs2[j]:=fun j hj=>by rw[hbl.cell (p:=⟨b2,_,none⟩) hb2];exact hc2 j hj
   have hR:=Ag.stays _ _ _ _ _ hbl.drew hR;have hR2:=Ag.stays _ _ _ _ _ hbl.drew hR2;obtain⟨rfl,hsn,_,_⟩:=hR;obtain⟨rfl,ae6,_,_⟩:=hR2;have c0:=hc 0 (by simp);have d0:=hc2 0 (by simp);have c1:=hc 1 (by simp);have d1:=hc2 1 (by simp);have c2:=hc 2 (by simp);have d2:=hc2 2 (by simp);simp only[jr,jh,ny,o8] at c0 d0 c1 d1 c2 d2;clear hc hcs hc2 hcs2;have hlt':(k:Int)<(xs.length:Int):=by omega
   go_wp2_with fail
   go_region_with (go_at_call 160;refine(ax9 _ _).mono ?_;rintro e w1 ⟨rfl,hb1⟩)
   all_goals
    go_wp2
    go_roundg (xs.length-(k+1))
    case measure=>have:=uh HG;omega
    case rel=>exact⟨k+1,by omega,rfl,by go_num,hbl.drew.trans (hb1.mono hbl.drew.size)⟩
  ·go_wp2
   go_ret;exact⟨rfl,hbl⟩
theorem agw (xs:List dh) (v u:Value) (w:bf) (hv:iy 1 16 wz 0 w v xs) (hu:iy 1 16 wz 0 w u xs) :
  Calls Tryz.prog 72 #[v,u] w (Q9 w):=by
 obtain⟨a,cap,rfl,_,hn,hx⟩:=hv;obtain⟨a2,cap2,rfl,_,_,hy⟩:=hu;unfold Len at hn;have HX:=hide hx;have HY:=hide hy;clear hx hy;go_enter Tryz.func72,Tryz.ntmps72;go_wp2
 go_loopg [5] xs.length (fun g i wr=>∃(k:Nat),k<=xs.length∧g=xs.length-k∧i=.int .i64 k∧Below w.heap.size w wr)
 case atStart=>exact⟨0,jg _,by omega,rfl,gy _ _⟩
 case round =>
  obtain⟨k,hk,hg,rfl,hbl⟩:=hrel;have HG:=hide hg;clear hg
  by_cases hlt:k<xs.length
  ·obtain⟨b,o,cs,rfl,_,hb,hcs,hc,hR⟩:=uh HX k hlt
   have hc:∀j (hj:j<cs.length),wr.cell? ⟨b,o+k*1+j,none⟩=some cs[j]:=fun j hj=>by rw[hbl.cell (p:=⟨b,_,none⟩) hb];exact hc j hj
   obtain⟨b2,o2,cs2,rfl,_,hb2,hcs2,hc2,hR2⟩:=uh HY k hlt;have hc2:∀j (hj:j<cs2.length),wr.cell? ⟨b2,o2+k*1+j,none⟩=some cs2[j]:=fun j hj=>by rw[hbl.cell (p:=⟨b2,_,none⟩) hb2];exact hc2 j hj
   have hR:=zo.stays _ _ _ _ _ hbl.drew hR;have hR2:=zo.stays _ _ _ _ _ hbl.drew hR2;obtain⟨rfl,hsn⟩:=hR;obtain⟨rfl,ae6⟩:=hR2;have c0:=hc 0 (by simp);have d0:=hc2 0 (by simp);simp only[jr,jh,ny,o8] at c0 d0;clear hc hcs hc2 hcs2;have hlt':(k:Int)<(xs.length:Int):=by omega
   go_wp2_with fail;generalize xs[k]=s at *;go_quiet (fail);go_wp2
   go_roundg (xs.length-(k+1))
   case measure=>have:=uh HG;omega
   case rel=>exact⟨k+1,by omega,rfl,by go_num,below_drewN hbl _⟩
  ·go_wp2
   go_ret;exact⟨rfl,hbl⟩
theorem aqo (xs:List (List ku)) (v u:Value) (w:bf) (hv:iy 1 24 Io 0 w v xs) (hu:iy 1 24 Io 0 w u xs) :
  Calls Tryz.prog 133 #[v,u] w (Q9 w):=by
 obtain⟨a,cap,rfl,_,hn,hx⟩:=hv;obtain⟨a2,cap2,rfl,_,_,hy⟩:=hu;unfold Len at hn;have HX:=hide hx;have HY:=hide hy;clear hx hy;go_enter Tryz.func133,Tryz.ntmps133;go_wp2
 go_loopg [5] xs.length (fun g i wr=>∃(k:Nat),k<=xs.length∧g=xs.length-k∧i=.int .i64 k∧Below w.heap.size w wr)
 case atStart=>exact⟨0,jg _,by omega,rfl,gy _ _⟩
 case round =>
  obtain⟨k,hk,hg,rfl,hbl⟩:=hrel;have HG:=hide hg;clear hg
  by_cases hlt:k<xs.length
  ·obtain⟨b,o,cs,rfl,_,hb,hcs,hc,hR⟩:=uh HX k hlt
   have hc:∀j (hj:j<cs.length),wr.cell? ⟨b,o+k*1+j,none⟩=some cs[j]:=fun j hj=>by rw[hbl.cell (p:=⟨b,_,none⟩) hb];exact hc j hj
   obtain⟨b2,o2,cs2,rfl,_,hb2,hcs2,hc2,hR2⟩:=uh HY k hlt;have hc2:∀j (hj:j<cs2.length),wr.cell? ⟨b2,o2+k*1+j,none⟩=some cs2[j]:=fun j hj=>by rw[hbl.cell (p:=⟨b2,_,none⟩) hb2];exact hc2 j hj
   have hR:=I9.stays _ _ _ _ _ hbl.drew hR;have hR2:=I9.stays _ _ _ _ _ hbl.drew hR2;obtain⟨p1,rfl,q1⟩:=hR;have P1:=hide q1;clear q1;obtain⟨p2,rfl,q2⟩:=hR2;have P2:=hide q2;clear q2;have c0:=hc 0 (by simp);have d0:=hc2 0 (by simp);simp only[jr,jh,ny,o8] at c0 d0;clear hc hcs hc2 hcs2;have hlt':(k:Int)<(xs.length:Int):=by omega
   go_wp2_with fail
   go_region_with (go_at_call 132;refine(akc _ _ _ _ (uh P1) (uh P2)).mono ?_;rintro e w1 ⟨rfl,hb1⟩)
   all_goals
    go_wp2
    go_roundg (xs.length-(k+1))
    case measure=>have:=uh HG;omega
    case rel=>exact⟨k+1,by omega,rfl,by go_num,hbl.drew.trans (hb1.mono hbl.drew.size)⟩
  ·go_wp2
   go_ret;exact⟨rfl,hbl⟩
theorem aya (c:jw) (w:bf) :
  Calls Tryz.prog 104 #[.agg #[.string c.name,.int .i64 c.type],.agg #[.string c.name,.int .i64 c.type]] w (Q9 w):=by
 obtain⟨s,ty⟩:=c;go_enter Tryz.func104,Tryz.ntmps104;go_wp2;go_ret;exact⟨rfl,((gy _ _).alloc (gq _) _).alloc (by simp) _⟩
theorem akd (xs:List jw) (v u:Value) (w:bf) (hv:iy 2 24 Oy 0 w v xs) (hu:iy 2 24 Oy 0 w u xs) :
  Calls Tryz.prog 71 #[v,u] w (Q9 w):=by
 obtain⟨a,cap,rfl,_,hn,hx⟩:=hv;obtain⟨a2,cap2,rfl,_,_,hy⟩:=hu;unfold Len at hn;have HX:=hide hx;have HY:=hide hy;clear hx hy;go_enter Tryz.func71,Tryz.ntmps71;go_wp2
 go_loopg [5] xs.length (fun g i wr=>∃(k:Nat),k<=xs.length∧g=xs.length-k∧i=.int .i64 k∧Below w.heap.size w wr)
 case atStart=>exact⟨0,jg _,by omega,rfl,gy _ _⟩
 case round =>
  obtain⟨k,hk,hg,rfl,hbl⟩:=hrel;have HG:=hide hg;clear hg
  by_cases hlt:k<xs.length
  ·obtain⟨b,o,cs,rfl,_,hb,hcs,hc,hR⟩:=uh HX k hlt
   have hc:∀j (hj:j<cs.length),wr.cell? ⟨b,o+k*2+j,none⟩=some cs[j]:=fun j hj=>by rw[hbl.cell (p:=⟨b,_,none⟩) hb];exact hc j hj
   obtain⟨b2,o2,cs2,rfl,_,hb2,hcs2,hc2,hR2⟩:=uh HY k hlt;have hc2:∀j (hj:j<cs2.length),wr.cell? ⟨b2,o2+k*2+j,none⟩=some cs2[j]:=fun j hj=>by rw[hbl.cell (p:=⟨b2,_,none⟩) hb2];exact hc2 j hj
   have hR:=Ip.stays _ _ _ _ _ hbl.drew hR;have hR2:=Ip.stays _ _ _ _ _ hbl.drew hR2;obtain⟨rfl,hsn,_⟩:=hR;obtain⟨rfl,ae6,_⟩:=hR2;have c0:=hc 0 (by simp);have d0:=hc2 0 (by simp);have c1:=hc 1 (by simp);have d1:=hc2 1 (by simp);simp only[jr,jh,ny,o8] at c0 d0 c1 d1;clear hc hcs hc2 hcs2;have hlt':(k:Int)<(xs.length:Int):=by omega
   go_wp2_with fail
   go_region_with (go_at_call 104;refine(aya _ _).mono ?_;rintro e w1 ⟨rfl,hb1⟩)
   all_goals
    go_wp2
    go_roundg (xs.length-(k+1))
    case measure=>have:=uh HG;omega
    case rel=>exact⟨k+1,by omega,rfl,by go_num,hbl.drew.trans (hb1.mono hbl.drew.size)⟩
  ·go_wp2
   go_ret;exact⟨rfl,hbl⟩
theorem amm (xs:List Int) (v u:Value) (w:bf) (hv:iy 1 8 J4 0 w v xs) (hu:iy 1 8 J4 0 w u xs) :
  Calls Tryz.prog 73 #[v,u] w (Q9 w):=by
 obtain⟨a,cap,rfl,_,hn,hx⟩:=hv;obtain⟨a2,cap2,rfl,_,_,hy⟩:=hu;unfold Len at hn;have HX:=hide hx;have HY:=hide hy;clear hx hy;go_enter Tryz.func73,Tryz.ntmps73;go_wp2
 go_loopg [5] xs.length (fun g i wr=>∃(k:Nat),k<=xs.length∧g=xs.length-k∧i=.int .i64 k∧Below w.heap.size w wr)
 case atStart=>exact⟨0,jg _,by omega,rfl,gy _ _⟩
 case round =>
  obtain⟨k,hk,hg,rfl,hbl⟩:=hrel;have HG:=hide hg;clear hg
  by_cases hlt:k<xs.length
  ·obtain⟨b,o,cs,rfl,_,hb,hcs,hc,hR⟩:=uh HX k hlt
   have hc:∀j (hj:j<cs.length),wr.cell? ⟨b,o+k*1+j,none⟩=some cs[j]:=fun j hj=>by rw[hbl.cell (p:=⟨b,_,none⟩) hb];exact hc j hj
   obtain⟨b2,o2,cs2,rfl,_,hb2,hcs2,hc2,hR2⟩:=uh HY k hlt;have hc2:∀j (hj:j<cs2.length),wr.cell? ⟨b2,o2+k*1+j,none⟩=some cs2[j]:=fun j hj=>by rw[hbl.cell (p:=⟨b2,_,none⟩) hb2];exact hc2 j hj
   have hR:=Fp.stays _ _ _ _ _ hbl.drew hR;have hR2:=Fp.stays _ _ _ _ _ hbl.drew hR2;obtain⟨rfl,hsn⟩:=hR;obtain⟨rfl,ae6⟩:=hR2;have c0:=hc 0 (by simp);have d0:=hc2 0 (by simp);simp only[jr,jh,ny,o8] at c0 d0;clear hc hcs hc2 hcs2;have hlt':(k:Int)<(xs.length:Int):=by omega
   go_wp2_with fail;generalize xs[k]=s at *;go_quiet (fail);go_wp2
   go_roundg (xs.length-(k+1))
   case measure=>have:=uh HG;omega
   case rel=>exact⟨k+1,by omega,rfl,by go_num,below_drewN hbl _⟩
  ·go_wp2
   go_ret;exact⟨rfl,hbl⟩
theorem a2u (x:lu) (a1 b1 a2 b2 a3 b3:Value) (w:bf) (h1:iy 1 16 wz 0 w a1 x.ak) (g1:iy 1 16 wz 0 w b1 x.ak) (h2:iy 3 32 Gp 0 w a2 x.code) (g2:iy 3 32 Gp 0 w b2 x.code) (h3:iy 1 24 Io 0 w a3 x.args) (g3:iy 1 24 Io 0 w b3 x.args) :
  Calls Tryz.prog 105 #[.agg #[.int .i64 x.kind,.string x.name,.int .i64 x.at_,a1,a2,a3],.agg #[.int .i64 x.kind,.string x.name,.int .i64 x.at_,b1,b2,b3]] w (Q9 w):=by
 obtain⟨kd,s,at0,ak,code,args⟩:=x;simp only at h1 g1 h2 g2 h3 g3;have H1:=hide h1;have G1:=hide g1;clear h1 g1;have H2:=hide h2;have G2:=hide g2;clear h2 g2;have H3:=hide h3;have G3:=hide g3;clear h3 g3;go_enter Tryz.func105,Tryz.ntmps105;have B0:Below w.heap.size w ((w.alloc (.cells _ _)).alloc (.cells _ _)):=((gy w.heap.size w).alloc (gq _) (.cells #[.int .i64 kd,.string s,.int .i64 at0,a1,a2,a3] 60)).alloc (by simp) (.cells #[.int .i64 kd,.string s,.int .i64 at0,b1,b2,b3] 60);go_wp2_with fail;refine(agw ak _ _ _ ?_ ?_).mono ?_
 ·exact(uh H1).stays zo B0
 ·exact(uh G1).stays zo B0
 rintro e w1 ⟨rfl,hb⟩;obtain⟨hc1,hf1⟩:=aan hb;have hz:=hb.size;have B1:Below w.heap.size w w1:=B0.trans (hb.mono B0.size)
 try simp only[Ed] at hz hc1 hf1
 have ber:w.heap.size<w1.heap.size:=by omega
 have bes:w.heap.size+1<w1.heap.size:=by omega
 clear hb hz;go_wp2_with fail;refine(akc code _ _ _ ?_ ?_).mono ?_
 ·exact(uh H2).stays Ag B1
 ·exact(uh G2).stays Ag B1
 rintro e w2 ⟨rfl,hb⟩;obtain⟨hc2,hf2⟩:=aan hb;have hz:=hb.size;have B2:Below w.heap.size w w2:=B1.trans (hb.mono B1.size)
 try simp only[Ed] at hz hc2 hf2
 have bet:w.heap.size<w2.heap.size:=by omega
 have beu:w.heap.size+1<w2.heap.size:=by omega
 clear hb hz;go_wp2_with fail;refine(aqo args _ _ _ ?_ ?_).mono ?_
 ·exact(uh H3).stays I9 B2
 ·exact(uh G3).stays I9 B2
 rintro e w3 ⟨rfl,hb⟩;obtain⟨hc3,hf3⟩:=aan hb;have hz:=hb.size;have B3:Below w.heap.size w w3:=B2.trans (hb.mono B2.size)
 try simp only[Ed] at hz hc3 hf3
 have bev:w.heap.size<w3.heap.size:=by omega
 have bew:w.heap.size+1<w3.heap.size:=by omega
 clear hb hz;go_wp2;go_ret;exact⟨rfl,B3⟩
theorem ayb (xs:List lu) (v u:Value) (w:bf) (hv:iy 6 104 Zu 0 w v xs) (hu:iy 6 104 Zu 0 w u xs) :
  Calls Tryz.prog 74 #[v,u] w (Q9 w):=by
 obtain⟨a,cap,rfl,_,hn,hx⟩:=hv;obtain⟨a2,cap2,rfl,_,_,hy⟩:=hu;unfold Len at hn;have HX:=hide hx;have HY:=hide hy;clear hx hy;go_enter Tryz.func74,Tryz.ntmps74;go_wp2
 go_loopg [5] xs.length (fun g i wr=>∃(k:Nat),k<=xs.length∧g=xs.length-k∧i=.int .i64 k∧Below w.heap.size w wr)
 case atStart=>exact⟨0,jg _,by omega,rfl,gy _ _⟩
 case round =>
  obtain⟨k,hk,hg,rfl,hbl⟩:=hrel;have HG:=hide hg;clear hg
  by_cases hlt:k<xs.length
  ·obtain⟨b,o,cs,rfl,_,hb,hcs,hc,hR⟩:=uh HX k hlt
   have hc:∀j (hj:j<cs.length),wr.cell? ⟨b,o+k*6+j,none⟩=some cs[j]:=fun j hj=>by rw[hbl.cell (p:=⟨b,_,none⟩) hb];exact hc j hj
   obtain⟨b2,o2,cs2,rfl,_,hb2,hcs2,hc2,hR2⟩:=uh HY k hlt;have hc2:∀j (hj:j<cs2.length),wr.cell? ⟨b2,o2+k*6+j,none⟩=some cs2[j]:=fun j hj=>by rw[hbl.cell (p:=⟨b2,_,none⟩) hb2];exact hc2 j hj
   have hR:=P9.stays _ _ _ _ _ hbl.drew hR;have hR2:=P9.stays _ _ _ _ _ hbl.drew hR2;obtain⟨l1,c1,a1,rfl,_,_,_,p1,p2,p3⟩:=hR;have P1:=hide p1;clear p1;have P2:=hide p2;clear p2;have P3:=hide p3;clear p3;obtain⟨l2,c2,a2,rfl,_,_,_,q1,q2,q3⟩:=hR2;have Q1:=hide q1;clear q1;have Q2:=hide q2;clear q2;have Q3:=hide q3;clear q3;have c0:=hc 0 (by simp);have d0:=hc2 0 (by simp);have c1:=hc 1 (by simp);have d1:=hc2 1 (by simp);have c2:=hc 2 (by simp);have d2:=hc2 2 (by simp);have c3:=hc 3 (by simp);have d3:=hc2 3 (by simp);have c4:=hc 4 (by simp);have d4:=hc2 4 (by simp);have c5:=hc 5 (by simp);have d5:=hc2 5 (by simp);simp only[jr,jh,ny,o8] at c0 d0 c1 d1 c2 d2 c3 d3 c4 d4 c5 d5;clear hc hcs hc2 hcs2;have hlt':(k:Int)<(xs.length:Int):=by omega
   go_wp2_with fail
   go_region_with (go_at_call 105;refine(a2u _ _ _ _ _ _ _ _ (uh P1) (uh Q1) (uh P2) (uh Q2) (uh P3) (uh Q3)).mono ?_;rintro e w1 ⟨rfl,hb1⟩)
   all_goals
    go_wp2
    go_roundg (xs.length-(k+1))
    case measure=>have:=uh HG;omega
    case rel=>exact⟨k+1,by omega,rfl,by go_num,hbl.drew.trans (hb1.mono hbl.drew.size)⟩
  ·go_wp2
   go_ret;exact⟨rfl,hbl⟩
theorem aut (x:dw) (a1 b1 a2 b2 a3 b3 a4 b4 a5 b5 a6 b6:Value) (w:bf) (h1:iy 2 24 Oy 0 w a1 x.ins) (g1:iy 2 24 Oy 0 w b1 x.ins) (h2:iy 2 24 Oy 0 w a2 x.ak) (g2:iy 2 24 Oy 0 w b2 x.ak) (h3:iy 1 16 wz 0 w a3 x.iq) (g3:iy 1 16 wz 0 w b3 x.iq) (h4:iy 1 8 J4 0 w a4 x.eu) (g4:iy 1 8 J4 0 w b4 x.eu) (h5:iy 1 8 J4 0 w a5 x.au) (g5:iy 1 8 J4 0 w b5 x.au) (h6:iy 6 104 Zu 0 w a6 x.body) (g6:iy 6 104 Zu 0 w b6 x.body) :
  Calls Tryz.prog 40 #[.agg #[.string x.name,a1,a2,a3,a4,a5,a6],.agg #[.string x.name,b1,b2,b3,b4,b5,b6]] w (Q9 w):=by
 obtain⟨s,ins,ak,iq,eu,au,body⟩:=x;simp only at h1 g1 h2 g2 h3 g3 h4 g4 h5 g5 h6 g6;have H1:=hide h1;have G1:=hide g1;clear h1 g1;have H2:=hide h2;have G2:=hide g2;clear h2 g2;have H3:=hide h3;have G3:=hide g3;clear h3 g3;have H4:=hide h4;have G4:=hide g4;clear h4 g4;have H5:=hide h5;have G5:=hide g5;clear h5 g5;have H6:=hide h6;have G6:=hide g6;clear h6 g6;go_enter Tryz.func40,Tryz.ntmps40;have B0:Below w.heap.size w ((w.alloc (.cells _ _)).alloc (.cells _ _)):=((gy w.heap.size w).alloc (gq _) (.cells #[.string s,a1,a2,a3,a4,a5,a6] 50)).alloc (by simp) (.cells #[.string s,b1,b2,b3,b4,b5,b6] 50);go_wp2_with fail;refine(akd ins _ _ _ ?_ ?_).mono ?_
 ·exact(uh H1).stays Ip B0
 ·exact(uh G1).stays Ip B0
 rintro e w1 ⟨rfl,hb⟩;obtain⟨hc1,hf1⟩:=aan hb;have hz:=hb.size;have B1:Below w.heap.size w w1:=B0.trans (hb.mono B0.size)
 try simp only[Ed] at hz hc1 hf1
 have ber:w.heap.size<w1.heap.size:=by omega
 have bes:w.heap.size+1<w1.heap.size:=by omega
 clear hb hz;go_wp2_with fail;refine(akd ak _ _ _ ?_ ?_).mono ?_
 ·exact(uh H2).stays Ip B1
 ·exact(uh G2).stays Ip B1
 rintro e w2 ⟨rfl,hb⟩;obtain⟨hc2,hf2⟩:=aan hb;have hz:=hb.size;have B2:Below w.heap.size w w2:=B1.trans (hb.mono B1.size)
 try simp only[Ed] at hz hc2 hf2
 have bet:w.heap.size<w2.heap.size:=by omega
 have beu:w.heap.size+1<w2.heap.size:=by omega
 clear hb hz;go_wp2_with fail;refine(agw iq _ _ _ ?_ ?_).mono ?_
 ·exact(uh H3).stays zo B2
 ·exact(uh G3).stays zo B2
 rintro e w3 ⟨rfl,hb⟩;obtain⟨hc3,hf3⟩:=aan hb;have hz:=hb.size;have B3:Below w.heap.size w w3:=B2.trans (hb.mono B2.size)
 try simp only[Ed] at hz hc3 hf3
 have bev:w.heap.size<w3.heap.size:=by omega
 have bew:w.heap.size+1<w3.heap.size:=by omega
 clear hb hz;go_wp2_with fail;refine(amm eu _ _ _ ?_ ?_).mono ?_
 ·exact(uh H4).stays Fp B3
 ·exact(uh G4).stays Fp B3
 rintro e w4 ⟨rfl,hb⟩;obtain⟨hc4,hf4⟩:=aan hb;have hz:=hb.size;have B4:Below w.heap.size w w4:=B3.trans (hb.mono B3.size)
 try simp only[Ed] at hz hc4 hf4
 have bf5:w.heap.size<w4.heap.size:=by omega
 have bf6:w.heap.size+1<w4.heap.size:=by omega
 clear hb hz;go_wp2_with fail;refine(amm au _ _ _ ?_ ?_).mono ?_
 ·exact(uh H5).stays Fp B4
 ·exact(uh G5).stays Fp B4
 rintro e w5 ⟨rfl,hb⟩;obtain⟨hc5,hf5⟩:=aan hb;have hz:=hb.size;have B5:Below w.heap.size w w5:=B4.trans (hb.mono B4.size)
 try simp only[Ed] at hz hc5 hf5
 have bf7:w.heap.size<w5.heap.size:=by omega
 have bf8:w.heap.size+1<w5.heap.size:=by omega
 clear hb hz;go_wp2_with fail;refine(ayb body _ _ _ ?_ ?_).mono ?_
 ·exact(uh H6).stays P9 B5
 ·exact(uh G6).stays P9 B5
 rintro e w6 ⟨rfl,hb⟩;obtain⟨hc6,hf6⟩:=aan hb;have hz:=hb.size;have B6:Below w.heap.size w w6:=B5.trans (hb.mono B5.size)
 try simp only[Ed] at hz hc6 hf6
 have bf9:w.heap.size<w6.heap.size:=by omega
 have bga:w.heap.size+1<w6.heap.size:=by omega
 clear hb hz;go_wp2;go_ret;exact⟨rfl,B6⟩
theorem aqp (xs:List dw) (v u:Value) (w:bf) (hv:iy 7 160 Dl 0 w v xs) (hu:iy 7 160 Dl 0 w u xs) :
  Calls Tryz.prog 16 #[v,u] w (Q9 w):=by
 obtain⟨a,cap,rfl,_,hn,hx⟩:=hv;obtain⟨a2,cap2,rfl,_,_,hy⟩:=hu;unfold Len at hn;have HX:=hide hx;have HY:=hide hy;clear hx hy;go_enter Tryz.func16,Tryz.ntmps16;go_wp2
 go_loopg [5] xs.length (fun g i wr=>∃(k:Nat),k<=xs.length∧g=xs.length-k∧i=.int .i64 k∧Below w.heap.size w wr)
 case atStart=>exact⟨0,jg _,by omega,rfl,gy _ _⟩
 case round =>
  obtain⟨k,hk,hg,rfl,hbl⟩:=hrel;have HG:=hide hg;clear hg
  by_cases hlt:k<xs.length
  ·obtain⟨b,o,cs,rfl,_,hb,hcs,hc,hR⟩:=uh HX k hlt
   have hc:∀j (hj:j<cs.length),wr.cell? ⟨b,o+k*7+j,none⟩=some cs[j]:=fun j hj=>by rw[hbl.cell (p:=⟨b,_,none⟩) hb];exact hc j hj
   obtain⟨b2,o2,cs2,rfl,_,hb2,hcs2,hc2,hR2⟩:=uh HY k hlt;have hc2:∀j (hj:j<cs2.length),wr.cell? ⟨b2,o2+k*7+j,none⟩=some cs2[j]:=fun j hj=>by rw[hbl.cell (p:=⟨b2,_,none⟩) hb2];exact hc2 j hj
   have hR:=Ei.stays _ _ _ _ _ hbl.drew hR;have hR2:=Ei.stays _ _ _ _ _ hbl.drew hR2;obtain⟨i1,i2,i3,i4,i5,i6,rfl,_,p1,p2,p3,p4,p5,p6⟩:=hR;have P1:=hide p1;clear p1;have P2:=hide p2;clear p2;have P3:=hide p3;clear p3;have P4:=hide p4;clear p4;have P5:=hide p5;clear p5;have P6:=hide p6;clear p6;obtain⟨j1,j2,j3,j4,j5,j6,rfl,_,q1,q2,q3,q4,q5,q6⟩:=hR2;have Q1:=hide q1;clear q1;have Q2:=hide q2;clear q2;have Q3:=hide q3;clear q3;have Q4:=hide q4;clear q4;have Q5:=hide q5;clear q5;have Q6:=hide q6;clear q6;have c0:=hc 0 (by simp);have d0:=hc2 0 (by simp);have c1:=hc 1 (by simp);have d1:=hc2 1 (by simp);have c2:=hc 2 (by simp);have d2:=hc2 2 (by simp);have c3:=hc 3 (by simp);have d3:=hc2 3 (by simp);have c4:=hc 4 (by simp);have d4:=hc2 4 (by simp);have c5:=hc 5 (by simp);have d5:=hc2 5 (by simp);have c6:=hc 6 (by simp);have d6:=hc2 6 (by simp);simp only[jr,jh,ny,o8] at c0 d0 c1 d1 c2 d2 c3 d3 c4 d4 c5 d5 c6 d6;clear hc hcs hc2 hcs2;have hlt':(k:Int)<(xs.length:Int):=by omega
   go_wp2_with fail
   go_region_with (go_at_call 40;refine(aut _ _ _ _ _ _ _ _ _ _ _ _ _ _ (uh P1) (uh Q1) (uh P2) (uh Q2) (uh P3) (uh Q3) (uh P4) (uh Q4) (uh P5) (uh Q5) (uh P6) (uh Q6)).mono ?_;rintro e w1 ⟨rfl,hb1⟩)
   all_goals
    go_wp2
    go_roundg (xs.length-(k+1))
    case measure=>have:=uh HG;omega
    case rel=>exact⟨k+1,by omega,rfl,by go_num,hbl.drew.trans (hb1.mono hbl.drew.size)⟩
  ·go_wp2
   go_ret;exact⟨rfl,hbl⟩
theorem agb (ks:List dw) (v u:Value) (w:bf) (h1:iy 7 160 Dl 0 w v ks) (g1:iy 7 160 Dl 0 w u ks) :
  Calls Tryz.prog 6 #[.agg #[v],.agg #[u]] w (Q9 w):=by
 have H1:=hide h1;have G1:=hide g1;clear h1 g1;have B0:Below w.heap.size w ((w.alloc (.cells _ _)).alloc (.cells _ _)):=((gy w.heap.size w).alloc (gq _) (.cells #[v] 24)).alloc (by simp) (.cells #[u] 24);go_enter Tryz.func6,Tryz.ntmps6;go_wp2_with fail;refine(aqp ks _ _ _ ?_ ?_).mono ?_
 ·exact(uh H1).stays Ei B0
 ·exact(uh G1).stays Ei B0
 rintro e w1 ⟨rfl,hb⟩;have B1:Below w.heap.size w w1:=B0.trans (hb.mono B0.size);go_wp2;go_ret;exact⟨rfl,B1⟩
end Go.Proofs.YtfeejeflmcapoaaGreatDoor
