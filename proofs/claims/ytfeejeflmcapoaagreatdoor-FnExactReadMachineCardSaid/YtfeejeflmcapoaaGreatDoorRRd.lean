import Derived.Deep.RegionHeld3
import Derived.Test.YtfeejeflmcapoaaGreatDoorRIA
import Derived.Test.YtfeejeflmcapoaaGreatDoorM15
import Derived.Test.YtfeejeflmcapoaaGreatDoorRIH
import Derived.Test.YtfeejeflmcapoaaGreatDoorData
import Derived.Test.YtfeejeflmcapoaaGreatDoorProg
import Derived.WalkLawsBesides
import Derived.Deep.LoopGhost
import Derived.Deep.RegionWith
import Derived.RegionTactic
import Derived.BigQuiet
import Derived.Deep.QuietTactic
import Derived.Test.YtfeejeflmcapoaaGreatDoorImplFresh
set_option linter.unusedSimpArgs false
set_option linter.unusedVariables false
set_option maxHeartbeats 8000000
set_option maxRecDepth 100000
namespace Go.Proofs.YtfeejeflmcapoaaGreatDoor
open Go.RowKit Go.Shelf
theorem aun {l n:Nat} {P:Program} {ops:Array Oper} {Q:Exit->Act->cu->Prop} {i:Nat} {K:Act->cu->Prop} {a:Act} {w:cu} (hd:∀(i:Nat) (o:Oper),ops[i]?=some o->∀c,o.op≠.defer c) (hno:¬LetsOut Q) (h:wpOp P ops Q i K a w):wpOpIn (Fence.wide.inRound l) n P ops Q i K a w:=by
 unfold wpOp at h;unfold wpOpIn
 cases ho:ops[i]? with
 | none=>rw[ho] at h;exact h
 | some o =>
  rw[ho] at h;simp only at h ⊢
  split
  ·rename_i hw
   rw[gy hw] at h;rcases h with h|h
   ·refine⟨fun f _=>trivial,?_⟩
    rw[show (Fence.wide.inRound l).round=some l from rfl,Oper.semAt_some l _ o (hd i o ho)];unfold Oper.wp at h;generalize (execOp a.eval o).run P w=r at h ⊢
    cases r with
    | ok x w' =>
     cases x with
     | enter f args=>exact⟨fun h9=>(by cases h9),callsIn_wide.2 h⟩
     | row row args=>exact⟨fun h9=>(by cases h9),fun c cs _=>let ⟨v,w9,r,s⟩:=h c cs;⟨v,w9,r,stepsIn_wide.2 s⟩⟩
     | round=>exact h.elim
     | _=>exact h
    | halt x w'=>cases x<;>exact h
   ·exact absurd h.2 hno
  ·rename_i hw
   rw[bf hw] at h;exact⟨fun f _=>trivial,h⟩
theorem ahs {l n:Nat} {P:Program} {md:Region.Mode} {ops:Array Oper} {Q:Exit->Act->cu->Prop} (hd:∀(i:Nat) (o:Oper),ops[i]?=some o->∀c,o.op≠.defer c) (hno:¬LetsOut Q):∀(fuel:Nat) (listed:Array Bool) (a:Act) (w:cu),wpAny P md ops Q fuel listed a w->wpAnyIn (Fence.wide.inRound l) n P md ops Q fuel listed a w
 | 0,_,_,_,h=>h
 | fuel+1,_,_,_,h=>⟨h.1,fun i hi=>wpOpIn_mono (fun a' w' h'=>ahs hd hno fuel _ a' w' h') (aun hd hno (h.2 i hi))⟩
theorem apn {l n id:Nat} {P:Program} {ops:Array Oper} {Q:Exit->Act->cu->Prop} {a:Act} {w:cu} {S:cu->Prop} (hm:P.follows .mixedOrders=true) (hd:∀(i:Nat) (o:Oper),ops[i]?=some o->∀c,o.op≠.defer c) (hno:¬LetsOut Q) (hS:S w.drew)
  (h:S w.drew->wpAnyH P .any ops Q S ops.size (Array.replicate ops.size false) a w.drew):(Code.region id ops true).wpIn (Fence.wide.inRound l) n P Q a w :=
 wpIn_region_any hm (ahs hd hno _ _ _ _ (wpAny_of_held _ _ _ _ (h hS)))
theorem agr {P:Program} {ops:Array Oper} {Q:Exit->Act->cu->Prop} {md:Region.Mode} {S:cu->Prop} {i:Nat} {d:Tmp} {oi:Oper} {v:Value} {fuel:Nat} {listed:Array Bool} {a:Act} {w:cu} (hi:ops[i]?=some oi) (hd:oi.dst=some d)
  (hs:Region.noSelect ops=true) (hf:Region.free md ops listed i=true) (hr:(Region.ready md ops listed).contains i=true) (hQ:∀c a w,Q (.panic c) (a.put (some d) v) w->Q (.panic c) a w) (hy:YieldsIf P ops S oi v a) (hS:S w)
  (h:wpAnyH P md ops Q S fuel (listed.setIfInBounds i true) (a.put (some d) v) w):wpAnyH P md ops Q S (fuel+1) listed a w :=
 wpAnyH_take hi hs hf hr (by rw[hd];exact hQ) hy hS (by rw[hd];exact h)
attribute [local go_sem] Oper.semAt_some
theorem axy (s ln:dh) (w:cu) (hs:s.size<=1048577) (h:Qo (Lib.trimSuffix (bL s) [10])=ln):Calls Tryz.prog 14 #[.string s,.string ⟨#[10]⟩] w fun e w'=>e=.returned (.string ln)/\w'=w:=by
 refine(Tryz.strings_TrimSuffix s ⟨#[10]⟩ w (by omega)).mono ?_;rintro e w' ⟨rfl,rfl⟩;exact⟨by rw[←h];rfl,rfl⟩
theorem auo (ln:dh) (w:cu) (hE:Za w) (hs:ln.size<=1048576):Calls Tryz.prog 13 #[.string ln,.string ⟨#[32]⟩] w fun e w'=>e=.returned (.slice (some ⟨w.heap.size,0,none⟩) (wordsOf 32 ln).length (wordsOf 32 ln).length)/\w'=w.alloc (.cells ((wordsOf 32 ln).map Value.string).toArray 9):=by
 obtain⟨m,hm⟩:=hE.mx;refine(Tryz.strings_Split ln ⟨#[32]⟩ m w (by omega) hm (by decide)).mono ?_;have h1:=aqk ⟨#[32]⟩ rfl _ ln rfl;have h2:=Lib.splitB_all ⟨#[32]⟩ (by decide) 0 _ ln rfl;rw[h1] at h2;rintro e w' ⟨rfl,rfl⟩;rw[←h2,h1];exact⟨rfl,rfl⟩
theorem axz {w W w3:cu} {N D B:Nat} {code:Int} {v u0:Value} {ks:List dw} {bs:List Nat} (hN:N=w.heap.size) (hw:Below N w W) (h3:Below W.heap.size W w3) (hR:jd W N 24 #[u0]) (hK:W.heap[D]?=some (.deferred (some []))) (hD:N<D) (hB:N<B) (hm:yj Et Ci B w3 v ks bs) :
  (w3.setCell ⟨N,0,none⟩ v).heap[D]?=some (.deferred (some []))/\((w3.setCell ⟨N,0,none⟩ v).putObj D (.deferred none)).cell? ⟨N,0,none⟩=some v/\RdP ks code w (.returned (.tuple #[.agg #[v],.int .i64 code])) ((w3.setCell ⟨N,0,none⟩ v).putObj D (.deferred none)):=by
 subst hN;have k3:w3.heap[D]?=some (.deferred (some [])):=(h3.block D (Kv.1 hK).1).trans hK;have r3:=hR.below h3 hR.lt;have hset:∀b,b≠w.heap.size->(w3.setCell ⟨w.heap.size,0,none⟩ v).heap[b]?=w3.heap[b]?:=fun b hn=>zf _ _ _ _ (fun e=>hn e)
 have hput:∀b,b≠D->((w3.setCell ⟨w.heap.size,0,none⟩ v).putObj D (.deferred none)).heap[b]?=(w3.setCell ⟨w.heap.size,0,none⟩ v).heap[b]?:=fun b hn=>World.putObj_heap_other hn
 have hz:((w3.setCell ⟨w.heap.size,0,none⟩ v).putObj D (.deferred none)).heap.size=w3.heap.size:=by simp[World.setCell,World.putObj]
 have hb3:Below w.heap.size w w3:=hw.trans (h3.mono hw.size);refine⟨(hset D (by omega)).trans k3,(show jd _ w.heap.size 24 #[v] from (hput _ (by omega)).trans (r3.set 0 v)).cell (i:=0) (v:=v) rfl,v,bs,rfl,yj.ay4 (hm.fr Iy (fun b hb=>(hput b (fun e=>?_)).trans (hset b (by have:=(hm.nd.2 b hb).1;omega))) (by omega)) (by omega),⟨hb3.os,hb3.tape,hb3.output,by rw[hz];exact hb3.size,fun k hk=>(hput k (by omega)).trans ((hset k (by omega)).trans (hb3.block k hk))⟩⟩;obtain⟨cur,T,h9⟩:=hm.aqz b hb;rw[e,k3] at h9
 cases h9
theorem aqc (t:dh) (w:cu) (hE:Za w) (hs:t.size<=1048576):Calls Tryz.prog 5 #[.string t] w (RdP (L8 t).1 (L8 t).2 w):=by
 obtain⟨PO,Gn⟩:=o8 (RdP (L8 t).1 (L8 t).2 w);rw[←Gn];have Dc:=ak Gn;clear Gn;obtain⟨W3,hW3⟩:=o8 ((((w.alloc (.cells #[.slice none 0 0] 24)).alloc (.map #[] 0)).alloc (.cells #[.slice none 0 0,.map (some (w.heap.size+1))] 35)).alloc (.cells #[.pointer (some ⟨w.heap.size+1+1,0,none⟩)] 32));obtain⟨W0,hW0⟩:=o8 (W3.alloc (.cells #[.string t] 9));have z3:W3.heap.size=w.heap.size+4:=by rw[hW3];simp
 have z0:W0.heap.size=w.heap.size+5:=by rw[hW0,Dy,z3]
 have hbw:Below w.heap.size w W0:=by
  rw[hW0,hW3];exact(((((iq _ w).alloc (gu _) _).alloc (by simp) _).alloc (by simp<;>omega) _).alloc (by simp<;>omega) _).alloc (by simp<;>omega) _
 have a1:Below (w.heap.size+1) (w.alloc (.cells #[.slice none 0 0] 24)) W0:=by
  rw[hW0,hW3];exact((((iq _ (w.alloc (.cells #[.slice none 0 0] 24))).alloc (by simp) _).alloc (by simp) _).alloc (by simp<;>omega) _).alloc (by simp<;>omega) _
 have a2:Below (w.heap.size+2) ((w.alloc (.cells #[.slice none 0 0] 24)).alloc (.map #[] 0)) W0:=by
  rw[hW0,hW3];exact(((iq _ ((w.alloc (.cells #[.slice none 0 0] 24)).alloc (.map #[] 0))).alloc (by simp) _).alloc (by simp) _).alloc (by simp<;>omega) _
 have a3:Below (w.heap.size+3) (((w.alloc (.cells #[.slice none 0 0] 24)).alloc (.map #[] 0)).alloc (.cells #[.slice none 0 0,.map (some (w.heap.size+1))] 35)) W0:=by
  rw[hW0,hW3];exact((iq _ (((w.alloc (.cells #[.slice none 0 0] 24)).alloc (.map #[] 0)).alloc (.cells #[.slice none 0 0,.map (some (w.heap.size+1))] 35))).alloc (by simp) _).alloc (by simp) _
 have a4:Below (w.heap.size+4) W3 W0:=by rw[hW0];exact(iq _ _).alloc (by omega) _
 have bR:jd W0 w.heap.size 24 #[.slice none 0 0]:=(oh w _ _).below a1 (by omega)
 have bP:Tq Tryz.prog 9 (.int .i64 0) W0 (w.heap.size+1) 0 (fun _=>.int .i64 0):=by
  have h9:=Tq.made (P:=Tryz.prog) (k:=9) (z:=.int .i64 0) (w.alloc (.cells #[.slice none 0 0] 24));rw[Dy] at h9;exact h9.block (a2.block _ (by omega))
 have bM:jd W0 (w.heap.size+1+1) 35 #[.slice none 0 0,.map (some (w.heap.size+1))]:=by
  have h9:=oh ((w.alloc (.cells #[.slice none 0 0] 24)).alloc (.map #[] 0)) #[.slice none 0 0,.map (some (w.heap.size+1))] 35;rw[Dy,Dy] at h9;exact h9.below a3 (by omega)
 have bQ:jd W0 (w.heap.size+1+1+1) 32 #[.pointer (some ⟨w.heap.size+1+1,0,none⟩)]:=by
  have h9:=oh (((w.alloc (.cells #[.slice none 0 0] 24)).alloc (.map #[] 0)).alloc (.cells #[.slice none 0 0,.map (some (w.heap.size+1))] 35)) #[.pointer (some ⟨w.heap.size+1+1,0,none⟩)] 32;rw[Dy,Dy,Dy,←hW3] at h9;exact h9.below a4 (by omega)
 have bS:jd W0 W3.heap.size 9 #[.string t]:=by rw[hW0];exact oh _ _ _
 have Ho:Hid (Calls Tryz.prog 11 #[.string t] W3 fun e w'=>e=.returned (.func (.func 27) #[] #[.pointer (some ⟨W3.heap.size,0,none⟩)])/\w'=W0):=ak (by rw[hW0];exact ay5 t W3);obtain⟨Bs,hBs⟩:=o8 W3.heap.size;rw[←hBs] at Ho bS z3;obtain⟨pb,hpb⟩:=o8 (w.heap.size+1);obtain⟨rb,hrb⟩:=o8 (w.heap.size+1+1);obtain⟨pr,hpr⟩:=o8 (w.heap.size+1+1+1);have HN:Hid (pb=w.heap.size+1/\rb=w.heap.size+2/\pr=w.heap.size+3/\Bs=w.heap.size+4/\W0.heap.size=w.heap.size+5):=ak ⟨hpb,hrb,hpr,z3,z0⟩;have HI0:Hid (RlI t W0 rb pb Bs 0 W0):=ak ⟨.slice none 0 0,[],⟨by rw[hrb,hpb];exact bM,yj.nil _ _ _ _,by rw[hpb];exact bP,gu _⟩,But.refl _ _⟩;have Ae:Hid (jd W0 w.heap.size 24 #[.slice none 0 0]/\jd W0 pr 32 #[.pointer (some ⟨rb,0,none⟩)]/\jd W0 Bs 9 #[.string t]/\Below w.heap.size w W0):=ak ⟨bR,by rw[hpr,hrb];exact bQ,bS,hbw⟩;have HE:=ak hE;have HS:=ak hs;have HW3:=ak hW3;have hmm:=@run_makeMap Tryz.prog;clear hE hs hW3 hW0 z3 z0 hbw a1 a2 a3 a4 bR bP bM bQ bS hBs;refine(callsIn_wide (n:=8)).1 ?_;refine callsIn_of_wp_marks Tryz.func5 rfl trivial ?_ rfl;simp only[Tryz.ntmps5,List.size_toArray,ug,Ar,Nat.reduceAdd,Nat.reduceSub,Array.replicate_succ,Array.replicate_zero,List.push_toArray,List.append_toArray,Gm,Ew];clear hpb hrb hpr;gi_wp2;rw[←uh HW3];have hpb:=(uh HN).1;have hrb:=(uh HN).2.1;have hpr:=(uh HN).2.2.1;rw[←hpb,show pb+1=rb from by omega,show rb+1=pr from by omega];clear hpb hrb hpr;refine⟨trivial,?_⟩;refine(callsIn_wide.2 (uh Ho)).mono ?_;rintro e9 w9 ⟨rfl,Qe⟩;rw[Qe];clear Qe;gi_wp2;refine aul (Bs:=Bs) (gf:=27) (L:=linesT t) rfl (enters_of Tryz.func27 (by kernel_rfl) rfl) rfl (by have:=uh HN;omega) (RlI t W0 rb pb Bs) (RlI.own (by have:=uh HN;omega) (by have:=uh HN;omega)) (RlI.set (by have:=uh HN;omega) (by have:=uh HN;omega) (by have:=uh HN;omega)) (uh HI0) (axv t Bs 7 (by decide) W0 (uh Ae).2.2.1 (uh HS))
  (fun x=>{ tmps:=#[.string t,undef,.pointer (some ⟨w.heap.size,0,none⟩),.int .i64 0,.pointer (some ⟨pr,0,none⟩),.string x,undef,.map (some pb),.agg #[.slice none 0 0,.map (some pb)],.pointer (some ⟨rb,0,none⟩),.string t,.func (.func 27) #[] #[.pointer (some ⟨Bs,0,none⟩)],.string x,undef,undef,undef,undef,undef,undef,undef,undef,undef,undef,undef,undef,undef,undef,undef,undef,undef,undef,undef,undef],defers:=[] }) ?assign ?body ?done
 case assign =>
  intro l x W K hK;gi_wp2;exact hK
 case body =>
  intro l k hk W hI;obtain⟨hk',e1,e2,e3⟩:=a95 t (uh HS) k hk;have HWD:Hid (Ut t (k+1)=Va (Ut t k) (wordsOf 32 (Gz t)[k])):=ak (aqm t k hk');have HTR:Hid (∀W,Calls Tryz.prog 14 #[.string (linesT t)[k],.string ⟨#[10]⟩] W fun e w'=>e=.returned (.string (Gz t)[k])/\w'=W):=ak (fun W=>axy _ _ W e3 e1);generalize (linesT t)[k]=lt at HTR ⊢;generalize (Gz t)[k]=ln at HTR HWD e2;obtain⟨mv,bs,hIr,X4⟩:=id hI;have hbW:Below w.heap.size w W:=(uh Ae).2.2.2.trans (X4.below w.heap.size (by have:=uh HN;omega) (fun b hb=>by simp only[qj,xq,xu] at hb;have:=uh HN;omega));have hEW:=(uh HE).below hbW (uh HE).env.three;have hpc:W.cell? ⟨pr,0,none⟩=some (.pointer (some ⟨rb,0,none⟩)):=((X4.blk (uh Ae).2.1 (by simp only[qj,xq,xu];have:=uh HN;omega))).cell (i:=0) (v:=.pointer (some ⟨rb,0,none⟩)) rfl;have HSP:=ak (auo ln W.drew (hEW.below ((iq W.heap.size W).drew) hEW.env.three) e2);obtain⟨Wq,hWq⟩:=o8 (W.drew.alloc (.cells ((wordsOf 32 ln).map Value.string).toArray 9));have hbq:Below W.heap.size W Wq:=by rw[hWq];exact((iq _ _).drew).alloc (gu _) _
  have hws:=Eb ln e2;have hq1:jc 1 16 xk 0 Wq (.slice (some ⟨W.heap.size,0,none⟩) (wordsOf 32 ln).length (wordsOf 32 ln).length) (wordsOf 32 ln):=by rw[hWq];exact a2c _ W.drew _ rfl hws.1 hws.2
  have HRD:=ak (a5x (hIr.below hbq) (by have:=uh HN;omega) (by have:=uh HN;omega) (a2b t k (uh HS)) (wordsOf 32 ln) _ (hEW.below hbq hEW.env.three) hq1 hws.2 (E5.2 (Ei 32 ln)) hws.1);rw[←hWq] at HSP
  have ai0:Hid (Calls Tryz.prog 12 #[.pointer (some ⟨rb,0,none⟩),.slice (some ⟨W.heap.size,0,none⟩) (wordsOf 32 ln).length (wordsOf 32 ln).length] Wq (fun e W'=>(∃v,e=.returned v)/\W'.cell? ⟨pr,0,none⟩=some (.pointer (some ⟨rb,0,none⟩))/\Hid (KeepsFrom W0.heap.size W W'/\W'.heap[Bs]?=W.heap[Bs]?/\RlI t W0 rb pb Bs (k+1) W'))):=ak ((uh HRD).mono (by
   rintro e W' ⟨hv,mv',bs',h1,h2⟩;have h3:=(Nz.Yt hbq hIr.size).trans h2;rw[←uh HWD] at h1;exact⟨hv,(World.cell?_of_block (w:=W) (h3.old pr (by have:=uh HN;omega) (by simp only[qj,xq,xu];have:=uh HN;omega))).trans hpc,ak ⟨⟨h3.size,fun i o hi h9 h8=>h3.oth i o hi h9 h8⟩,h3.old Bs (by have:=uh HN;omega) (by simp only[qj,xq,xu];have:=uh HN;omega),RlI.step hI h3 h1⟩⟩))
  have hpq:Wq.cell? ⟨pr,0,none⟩=some (.pointer (some ⟨rb,0,none⟩)):=(hbq.cell (p:=⟨pr,0,none⟩) (qg (show pr<W0.heap.size by have:=uh HN;omega) X4.size)).trans hpc;have hpl:pr<W.heap.size:=qg (by have:=uh HN;omega) X4.size;generalize (wordsOf 32 ln).length=wn at HSP ai0;clear HRD hI hIr X4 hbW hEW hWq hbq hws hq1 HWD e1 e2 e3 hk' hk;gi_wp2;refine apn (S:=fun w'=>w'.cell? ⟨pr,0,none⟩=some (.pointer (some ⟨rb,0,none⟩))) (by kernel_rfl) ?_ ?_ hpc (fun hHeld=>?_)
  ·intro i9 o9 h9
   have h8:=Array.mem_of_getElem? h9;simp only[List.mem_toArray,qj,xq,xu] at h8;rcases h8 with rfl|rfl|rfl|rfl|rfl<;>intro c9 hc9<;>cases hc9
  ·rintro⟨a9,w9,h9⟩
   exact h9
  refine agr (i:=0) (d:=13) (v:=.pointer (some ⟨rb,0,none⟩)) rfl rfl (by kernel_rfl) (by kernel_rfl) (by kernel_rfl) (fun _ _ _ h=>h) (Or.inl ⟨by kernel_rfl,fun w9 hS9=>by have e0:w9.cell? ⟨pr,0,none⟩=some (.pointer (some ⟨rb,0,none⟩)):=hS9;go_simp⟩) hHeld ?_
  try simp only[Act.put,List.setIfInBounds_toArray,List.set_cons_zero,List.set_cons_succ]
  refine agr (i:=1) (d:=14) (v:=_) rfl rfl (by kernel_rfl) (by kernel_rfl) (by kernel_rfl) (fun _ _ _ h=>h) (Or.inl ⟨by kernel_rfl,fun _ _=>rfl⟩) hHeld ?_
  try simp only[Act.put,List.setIfInBounds_toArray,List.set_cons_zero,List.set_cons_succ]
  refine wpAnyH_ready (rs:=[2]) (by kernel_rfl) (by simp) ?_;refine AllReadyH.cons rfl (fun K hK=>?_) AllReadyH.nil
  go_simp
  refine(uh HTR _).mono ?_;rintro e w8 ⟨rfl,hw8⟩;rw[hw8];clear hw8;refine hK.out _ _ hpc (fun hHeld=>?_);clear hK K
  try simp only[Act.put,List.setIfInBounds_toArray,List.set_cons_zero,List.set_cons_succ]
  refine wpAnyH_ready (rs:=[3]) (by kernel_rfl) (by simp) ?_;refine AllReadyH.cons rfl (fun K hK=>?_) AllReadyH.nil
  go_simp
  refine(uh HSP).mono ?_;rintro e w8 ⟨rfl,hw8⟩;rw[hw8];clear hw8;refine hK.out _ _ hpq (fun hHeld=>?_);clear hK K
  try simp only[Act.put,List.setIfInBounds_toArray,List.set_cons_zero,List.set_cons_succ]
  refine wpAnyH_ready (rs:=[4]) (by kernel_rfl) (by simp) ?_;refine AllReadyH.cons rfl (fun K hK=>?_) AllReadyH.nil
  go_simp
  refine(uh ai0).mono ?_;rintro e w8 ⟨⟨v9,rfl⟩,hp8,HF8⟩;refine hK.out _ _ hp8 (fun hHeld=>?_);clear hK K;refine wpAnyH_done (by kernel_rfl) ?_ _;gi_wp2;exact uh HF8
 case done =>
  intro D W hD hI hK;obtain⟨mv,bs,hIr,X4⟩:=hI;rw[aum t _ (by rw[←apl t,zy])] at hIr;have hgw:pz qy (Oo t)<=1048576:=ku (a1o t) (uh HS)
  have HRD:Hid (t≠ByteArray.empty->L8 t=if Xh (Oo t)=t then (Oo t,0) else ([],1)):=ak (fun hne=>by
   obtain⟨h1,h2⟩:=axl t hne;unfold L8
   by_cases c:Xh (Oo t)=t
   ·rw[gy c,gy ⟨hne,h1.2 c⟩,h2 (h1.2 c)]
   ·rw[bf c,bf (fun h9=>c (h1.1 h9.2))])
  generalize Oo t=ks at hIr hgw HRD;obtain⟨ma,mc,rfl⟩:=hIr.row.slice;obtain⟨mn,hmn⟩:=o8 ks.length;rw[←hmn] at hIr;clear hmn;have hbW:Below w.heap.size w W:=(uh Ae).2.2.2.trans (X4.below w.heap.size (by have:=uh HN;omega) (fun b hb=>by simp only[qj,xq,xu] at hb;have:=uh HN;omega));have hbR:jd W w.heap.size 24 #[.slice none 0 0]:=X4.blk (uh Ae).1 (by simp only[qj,xq,xu];have:=uh HN;omega);have hbP:=X4.blk (uh Ae).2.1 (show pr∉[rb,pb,Bs] by simp only[qj,xq,xu];have:=uh HN;omega);have q1:=hbP.cell (i:=0) (v:=.pointer (some ⟨rb,0,none⟩)) rfl;have q2:=hIr.box.cell (i:=0) (v:=.slice ma mn mc) rfl;have q3:=hbP.lt;have q4:=hIr.box.lt;have hA:Below W.heap.size W (W.alloc (.cells #[.slice ma mn mc] 24)):=(iq _ _).alloc (gu _) _;obtain⟨WA,hWA⟩:=o8 (W.alloc (.cells #[.slice ma mn mc] 24));rw[←hWA] at hA;have hbM:jd WA W.heap.size 24 #[.slice ma mn mc]:=by rw[hWA];exact oh _ _ _
  have bd1:=hbR.below hA hbR.lt
  have Rq:Hid (∀w3,Below WA.heap.size WA w3->(w3.cell? ⟨w.heap.size,0,none⟩=some (.slice none 0 0)/\w3.frozen? ⟨w.heap.size,0,none⟩=false/\w.heap.size<w3.heap.size/\w3.cell? ⟨W.heap.size,0,none⟩=some (.slice ma mn mc))/\(∀code,(w3.setCell ⟨w.heap.size,0,none⟩ (.slice ma mn mc)).heap[D]?=some (.deferred (some []))/\((w3.setCell ⟨w.heap.size,0,none⟩ (.slice ma mn mc)).putObj D (.deferred none)).cell? ⟨w.heap.size,0,none⟩=some (.slice ma mn mc)/\RdP ks code w (.returned (.tuple #[.agg #[.slice ma mn mc],.int .i64 code])) ((w3.setCell ⟨w.heap.size,0,none⟩ (.slice ma mn mc)).putObj D (.deferred none)))/\∀code,(w3.setCell ⟨w.heap.size,0,none⟩ (.slice none 0 0)).heap[D]?=some (.deferred (some []))/\((w3.setCell ⟨w.heap.size,0,none⟩ (.slice none 0 0)).putObj D (.deferred none)).cell? ⟨w.heap.size,0,none⟩=some (.slice none 0 0)/\RdP [] code w (.returned (.tuple #[.agg #[.slice none 0 0],.int .i64 code])) ((w3.setCell ⟨w.heap.size,0,none⟩ (.slice none 0 0)).putObj D (.deferred none))):=ak (fun w3 hb3=>by
   have hW3:Below W.heap.size W w3:=hA.trans (hb3.mono hA.size);have r3:=hbR.below hW3 hbR.lt;have m3:=hbM.below hb3 hbM.lt;refine⟨⟨r3.cell (i:=0) (v:=.slice none 0 0) rfl,r3.free 0,r3.lt,m3.cell (i:=0) (v:=.slice ma mn mc) rfl⟩,fun code=>axz (B:=W0.heap.size) rfl hbW hW3 hbR hK (by have:=uh HN;omega) (by have:=uh HN;omega) (hIr.below hW3).row,fun code=>axz (B:=W0.heap.size) (bs:=[]) rfl hbW hW3 hbR hK (by have:=uh HN;omega) (by have:=uh HN;omega) (yj.nil _ _ _ _)⟩)
  have HPR:=ak (anv ks hgw (.slice ma mn mc) WA (((uh HE).below hbW (uh HE).env.three).below hA (ku (uh HE).env.three hbW.size)).env (hIr.below hA).row.slC);have HWA:=ak hWA;have x1:=hbM.cell (i:=0) (v:=.slice ma mn mc) rfl;clear hgw hIr X4 hbW hbR hbP hA hbM bd1 hWA hK hD
  by_cases hne:t=ByteArray.empty
  ·have e0:(t.toList==[])=true:=by rw[afe];exact jf hne
   obtain⟨⟨f1,f2,f3,f4⟩,_,f6⟩:=uh Rq WA (iq _ _);obtain⟨g1,g2,g3⟩:=f6 1
   have HF:Hid (PO (.returned (.tuple #[.agg #[.slice none 0 0],.int .i64 1])) ((WA.setCell ⟨w.heap.size,0,none⟩ (.slice none 0 0)).putObj D (.deferred none))):=ak (by
    rw[uh Dc,show L8 t=([],1) from by unfold L8;rw[bf (fun h9=>h9.1 hne)]];exact g3)
   have HG:=ak (And.intro g1 g2);clear g1 g2 g3 f6 Rq hne;obtain rfl:=uh HWA;gi_wp2;refine⟨trivial,?_⟩;gi_wp2;refine⟨by simp,.inl ⟨_,_,rfl,run_takeDeferred (uh HG).1,?_⟩⟩;refine⟨.tuple #[.agg #[.slice none 0 0],.int .i64 1],?_,uh HF⟩;simp[results,Tryz.f5,go_sem,(uh HG).2]
  ·have e0:(t.toList==[])=false:=by rw[afe];exact iy hne
   have ai0:=ak (uh HRD hne);clear hne HRD
   gi_wp2_with fail
   rw[←uh HWA];refine⟨trivial,?_⟩;refine(callsIn_wide.2 (uh HPR)).mono ?_;rintro e w3 ⟨rfl,hb3⟩;obtain⟨⟨f1,f2,f3,f4⟩,f5,f6⟩:=uh Rq w3 hb3;clear hb3 Rq HPR x1 q1 q2 q3 q4 HWA
   by_cases hpt:Xh ks=t
   ·have ep:((Xh ks).toList==t.toList)=true:=by rw[hpt];simp
    have ep2:((Xh ks).toList != t.toList)=false:=by simp only[bne,ep];rfl
    obtain⟨g1,g2,g3⟩:=f5 0
    have HF:Hid (PO (.returned (.tuple #[.agg #[.slice ma mn mc],.int .i64 0])) ((w3.setCell ⟨w.heap.size,0,none⟩ (.slice ma mn mc)).putObj D (.deferred none))):=ak (by
     rw[uh Dc,uh ai0,gy hpt];exact g3)
    have HG:=ak (And.intro g1 g2);clear g1 g2 g3 f5 f6 hpt ai0;generalize Xh ks=p at ep ep2 ⊢;gi_wp2;refine⟨by simp,.inl ⟨_,_,rfl,run_takeDeferred (uh HG).1,?_⟩⟩;refine⟨.tuple #[.agg #[.slice ma mn mc],.int .i64 0],?_,uh HF⟩;simp[results,Tryz.f5,go_sem,(uh HG).2]
   ·have ep:((Xh ks).toList==t.toList)=false:=by rw[zi];exact iy hpt
    have ep2:((Xh ks).toList != t.toList)=true:=by simp only[bne,ep];rfl
    obtain⟨g1,g2,g3⟩:=f6 1
    have HF:Hid (PO (.returned (.tuple #[.agg #[.slice none 0 0],.int .i64 1])) ((w3.setCell ⟨w.heap.size,0,none⟩ (.slice none 0 0)).putObj D (.deferred none))):=ak (by
     rw[uh Dc,uh ai0,bf hpt];exact g3)
    have HG:=ak (And.intro g1 g2);clear g1 g2 g3 f5 f6 hpt ai0;generalize Xh ks=p at ep ep2 ⊢;gi_wp2;refine⟨by simp,.inl ⟨_,_,rfl,run_takeDeferred (uh HG).1,?_⟩⟩;refine⟨.tuple #[.agg #[.slice none 0 0],.int .i64 1],?_,uh HF⟩;simp[results,Tryz.f5,go_sem,(uh HG).2]
open Go.RowKit
def Qv (w:cu) (e:Ending) (w':cu):Prop:=e=.returned (.bool true)/\Below w.heap.size w w'
theorem ax0 (t:l9) (w:cu) :
  Calls Tryz.prog 160 #[.agg #[.int .i64 t.op,.int .i64 t.val,.string t.name],.agg #[.int .i64 t.op,.int .i64 t.val,.string t.name]] w (Qv w):=by
 obtain⟨op,val,s⟩:=t;go_enter Tryz.func160,Tryz.ntmps160;go_wp2;go_ret;exact⟨rfl,((iq _ _).alloc (gu _) _).alloc (by simp) _⟩
theorem below_drewN {B:Nat} {w w':cu} (h:Below B w w') (n:Nat):Below B w (w'.drewN n):=by
 induction n with
 | zero=>exact h
 | succ n ih=>exact ih.drew
theorem aj7 (xs:List l9) (v u:Value) (w:cu) (hv:jc 3 32 Gg 0 w v xs) (hu:jc 3 32 Gg 0 w u xs) :
  Calls Tryz.prog 132 #[v,u] w (Qv w):=by
 obtain⟨a,cap,rfl,_,hn,hx⟩:=hv;obtain⟨a2,cap2,rfl,_,_,hy⟩:=hu;unfold Len at hn;have HX:=ak hx;have HY:=ak hy;clear hx hy;go_enter Tryz.func132,Tryz.ntmps132;go_wp2
 go_loopg [5] xs.length (fun g i wr=>∃(k:Nat),k<=xs.length/\g=xs.length-k/\i=.int .i64 k/\Below w.heap.size w wr)
 case atStart=>exact⟨0,jg _,by omega,rfl,iq _ _⟩
 case round =>
  obtain⟨k,hk,hg,rfl,hbl⟩:=hrel;have HG:=ak hg;clear hg
  by_cases hlt:k<xs.length
  ·obtain⟨b,o,cs,rfl,_,hb,hcs,hc,hR⟩:=uh HX k hlt
   have hc:∀j (hj:j<cs.length),wr.cell? ⟨b,o+k*3+j,none⟩=some cs[j]:=fun j hj=>by rw[hbl.cell (p:=⟨b,_,none⟩) hb];exact hc j hj
   obtain⟨b2,o2,cs2,rfl,_,hb2,hcs2,hc2,hR2⟩:=uh HY k hlt;have hc2:∀j (hj:j<cs2.length),wr.cell? ⟨b2,o2+k*3+j,none⟩=some cs2[j]:=fun j hj=>by rw[hbl.cell (p:=⟨b2,_,none⟩) hb2];exact hc2 j hj
   have hR:=Ad.stays _ _ _ _ _ hbl.drew hR;have hR2:=Ad.stays _ _ _ _ _ hbl.drew hR2;obtain⟨rfl,hsn,_,_⟩:=hR;obtain⟨rfl,ae2,_,_⟩:=hR2;have c0:=hc 0 (by simp);have d0:=hc2 0 (by simp);have c1:=hc 1 (by simp);have d1:=hc2 1 (by simp);have c2:=hc 2 (by simp);have d2:=hc2 2 (by simp);simp only[jr,ji,og,ou] at c0 d0 c1 d1 c2 d2;clear hc hcs hc2 hcs2;have hlt':(k:Int)<(xs.length:Int):=by omega
   go_wp2_with fail
   go_region_with (go_at_call 160;refine(ax0 _ _).mono ?_;rintro e w1 ⟨rfl,hb1⟩)
   all_goals
    go_wp2
    go_roundg (xs.length-(k+1))
    case measure=>have:=uh HG;omega
    case rel=>exact⟨k+1,by omega,rfl,by go_num,hbl.drew.trans (hb1.mono hbl.drew.size)⟩
  ·go_wp2
   go_ret;exact⟨rfl,hbl⟩
theorem agt (xs:List dh) (v u:Value) (w:cu) (hv:jc 1 16 xk 0 w v xs) (hu:jc 1 16 xk 0 w u xs) :
  Calls Tryz.prog 72 #[v,u] w (Qv w):=by
 obtain⟨a,cap,rfl,_,hn,hx⟩:=hv;obtain⟨a2,cap2,rfl,_,_,hy⟩:=hu;unfold Len at hn;have HX:=ak hx;have HY:=ak hy;clear hx hy;go_enter Tryz.func72,Tryz.ntmps72;go_wp2
 go_loopg [5] xs.length (fun g i wr=>∃(k:Nat),k<=xs.length/\g=xs.length-k/\i=.int .i64 k/\Below w.heap.size w wr)
 case atStart=>exact⟨0,jg _,by omega,rfl,iq _ _⟩
 case round =>
  obtain⟨k,hk,hg,rfl,hbl⟩:=hrel;have HG:=ak hg;clear hg
  by_cases hlt:k<xs.length
  ·obtain⟨b,o,cs,rfl,_,hb,hcs,hc,hR⟩:=uh HX k hlt
   have hc:∀j (hj:j<cs.length),wr.cell? ⟨b,o+k*1+j,none⟩=some cs[j]:=fun j hj=>by rw[hbl.cell (p:=⟨b,_,none⟩) hb];exact hc j hj
   obtain⟨b2,o2,cs2,rfl,_,hb2,hcs2,hc2,hR2⟩:=uh HY k hlt;have hc2:∀j (hj:j<cs2.length),wr.cell? ⟨b2,o2+k*1+j,none⟩=some cs2[j]:=fun j hj=>by rw[hbl.cell (p:=⟨b2,_,none⟩) hb2];exact hc2 j hj
   have hR:=zk.stays _ _ _ _ _ hbl.drew hR;have hR2:=zk.stays _ _ _ _ _ hbl.drew hR2;obtain⟨rfl,hsn⟩:=hR;obtain⟨rfl,ae2⟩:=hR2;have c0:=hc 0 (by simp);have d0:=hc2 0 (by simp);simp only[jr,ji,og,ou] at c0 d0;clear hc hcs hc2 hcs2;have hlt':(k:Int)<(xs.length:Int):=by omega
   go_wp2_with fail;generalize xs[k]=s at *;go_quiet (fail);go_wp2
   go_roundg (xs.length-(k+1))
   case measure=>have:=uh HG;omega
   case rel=>exact⟨k+1,by omega,rfl,by go_num,below_drewN hbl _⟩
  ·go_wp2
   go_ret;exact⟨rfl,hbl⟩
theorem aqn (xs:List (List l9)) (v u:Value) (w:cu) (hv:jc 1 24 Ih 0 w v xs) (hu:jc 1 24 Ih 0 w u xs) :
  Calls Tryz.prog 133 #[v,u] w (Qv w):=by
 obtain⟨a,cap,rfl,_,hn,hx⟩:=hv;obtain⟨a2,cap2,rfl,_,_,hy⟩:=hu;unfold Len at hn;have HX:=ak hx;have HY:=ak hy;clear hx hy;go_enter Tryz.func133,Tryz.ntmps133;go_wp2
 go_loopg [5] xs.length (fun g i wr=>∃(k:Nat),k<=xs.length/\g=xs.length-k/\i=.int .i64 k/\Below w.heap.size w wr)
 case atStart=>exact⟨0,jg _,by omega,rfl,iq _ _⟩
 case round =>
  obtain⟨k,hk,hg,rfl,hbl⟩:=hrel;have HG:=ak hg;clear hg
  by_cases hlt:k<xs.length
  ·obtain⟨b,o,cs,rfl,_,hb,hcs,hc,hR⟩:=uh HX k hlt
   have hc:∀j (hj:j<cs.length),wr.cell? ⟨b,o+k*1+j,none⟩=some cs[j]:=fun j hj=>by rw[hbl.cell (p:=⟨b,_,none⟩) hb];exact hc j hj
   obtain⟨b2,o2,cs2,rfl,_,hb2,hcs2,hc2,hR2⟩:=uh HY k hlt;have hc2:∀j (hj:j<cs2.length),wr.cell? ⟨b2,o2+k*1+j,none⟩=some cs2[j]:=fun j hj=>by rw[hbl.cell (p:=⟨b2,_,none⟩) hb2];exact hc2 j hj
   have hR:=I8.stays _ _ _ _ _ hbl.drew hR;have hR2:=I8.stays _ _ _ _ _ hbl.drew hR2;obtain⟨p1,rfl,q1⟩:=hR;have P1:=ak q1;clear q1;obtain⟨p2,rfl,q2⟩:=hR2;have P2:=ak q2;clear q2;have c0:=hc 0 (by simp);have d0:=hc2 0 (by simp);simp only[jr,ji,og,ou] at c0 d0;clear hc hcs hc2 hcs2;have hlt':(k:Int)<(xs.length:Int):=by omega
   go_wp2_with fail
   go_region_with (go_at_call 132;refine(aj7 _ _ _ _ (uh P1) (uh P2)).mono ?_;rintro e w1 ⟨rfl,hb1⟩)
   all_goals
    go_wp2
    go_roundg (xs.length-(k+1))
    case measure=>have:=uh HG;omega
    case rel=>exact⟨k+1,by omega,rfl,by go_num,hbl.drew.trans (hb1.mono hbl.drew.size)⟩
  ·go_wp2
   go_ret;exact⟨rfl,hbl⟩
theorem ax1 (c:jw) (w:cu) :
  Calls Tryz.prog 104 #[.agg #[.string c.name,.int .i64 c.type],.agg #[.string c.name,.int .i64 c.type]] w (Qv w):=by
 obtain⟨s,ty⟩:=c;go_enter Tryz.func104,Tryz.ntmps104;go_wp2;go_ret;exact⟨rfl,((iq _ _).alloc (gu _) _).alloc (by simp) _⟩
theorem aj8 (xs:List jw) (v u:Value) (w:cu) (hv:jc 2 24 Oq 0 w v xs) (hu:jc 2 24 Oq 0 w u xs) :
  Calls Tryz.prog 71 #[v,u] w (Qv w):=by
 obtain⟨a,cap,rfl,_,hn,hx⟩:=hv;obtain⟨a2,cap2,rfl,_,_,hy⟩:=hu;unfold Len at hn;have HX:=ak hx;have HY:=ak hy;clear hx hy;go_enter Tryz.func71,Tryz.ntmps71;go_wp2
 go_loopg [5] xs.length (fun g i wr=>∃(k:Nat),k<=xs.length/\g=xs.length-k/\i=.int .i64 k/\Below w.heap.size w wr)
 case atStart=>exact⟨0,jg _,by omega,rfl,iq _ _⟩
 case round =>
  obtain⟨k,hk,hg,rfl,hbl⟩:=hrel;have HG:=ak hg;clear hg
  by_cases hlt:k<xs.length
  ·obtain⟨b,o,cs,rfl,_,hb,hcs,hc,hR⟩:=uh HX k hlt
   have hc:∀j (hj:j<cs.length),wr.cell? ⟨b,o+k*2+j,none⟩=some cs[j]:=fun j hj=>by rw[hbl.cell (p:=⟨b,_,none⟩) hb];exact hc j hj
   obtain⟨b2,o2,cs2,rfl,_,hb2,hcs2,hc2,hR2⟩:=uh HY k hlt;have hc2:∀j (hj:j<cs2.length),wr.cell? ⟨b2,o2+k*2+j,none⟩=some cs2[j]:=fun j hj=>by rw[hbl.cell (p:=⟨b2,_,none⟩) hb2];exact hc2 j hj
   have hR:=Ii.stays _ _ _ _ _ hbl.drew hR;have hR2:=Ii.stays _ _ _ _ _ hbl.drew hR2;obtain⟨rfl,hsn,_⟩:=hR;obtain⟨rfl,ae2,_⟩:=hR2;have c0:=hc 0 (by simp);have d0:=hc2 0 (by simp);have c1:=hc 1 (by simp);have d1:=hc2 1 (by simp);simp only[jr,ji,og,ou] at c0 d0 c1 d1;clear hc hcs hc2 hcs2;have hlt':(k:Int)<(xs.length:Int):=by omega
   go_wp2_with fail
   go_region_with (go_at_call 104;refine(ax1 _ _).mono ?_;rintro e w1 ⟨rfl,hb1⟩)
   all_goals
    go_wp2
    go_roundg (xs.length-(k+1))
    case measure=>have:=uh HG;omega
    case rel=>exact⟨k+1,by omega,rfl,by go_num,hbl.drew.trans (hb1.mono hbl.drew.size)⟩
  ·go_wp2
   go_ret;exact⟨rfl,hbl⟩
theorem aml (xs:List Int) (v u:Value) (w:cu) (hv:jc 1 8 Jv 0 w v xs) (hu:jc 1 8 Jv 0 w u xs) :
  Calls Tryz.prog 73 #[v,u] w (Qv w):=by
 obtain⟨a,cap,rfl,_,hn,hx⟩:=hv;obtain⟨a2,cap2,rfl,_,_,hy⟩:=hu;unfold Len at hn;have HX:=ak hx;have HY:=ak hy;clear hx hy;go_enter Tryz.func73,Tryz.ntmps73;go_wp2
 go_loopg [5] xs.length (fun g i wr=>∃(k:Nat),k<=xs.length/\g=xs.length-k/\i=.int .i64 k/\Below w.heap.size w wr)
 case atStart=>exact⟨0,jg _,by omega,rfl,iq _ _⟩
 case round =>
  obtain⟨k,hk,hg,rfl,hbl⟩:=hrel;have HG:=ak hg;clear hg
  by_cases hlt:k<xs.length
  ·obtain⟨b,o,cs,rfl,_,hb,hcs,hc,hR⟩:=uh HX k hlt
   have hc:∀j (hj:j<cs.length),wr.cell? ⟨b,o+k*1+j,none⟩=some cs[j]:=fun j hj=>by rw[hbl.cell (p:=⟨b,_,none⟩) hb];exact hc j hj
   obtain⟨b2,o2,cs2,rfl,_,hb2,hcs2,hc2,hR2⟩:=uh HY k hlt;have hc2:∀j (hj:j<cs2.length),wr.cell? ⟨b2,o2+k*1+j,none⟩=some cs2[j]:=fun j hj=>by rw[hbl.cell (p:=⟨b2,_,none⟩) hb2];exact hc2 j hj
   have hR:=E8.stays _ _ _ _ _ hbl.drew hR;have hR2:=E8.stays _ _ _ _ _ hbl.drew hR2;obtain⟨rfl,hsn⟩:=hR;obtain⟨rfl,ae2⟩:=hR2;have c0:=hc 0 (by simp);have d0:=hc2 0 (by simp);simp only[jr,ji,og,ou] at c0 d0;clear hc hcs hc2 hcs2;have hlt':(k:Int)<(xs.length:Int):=by omega
   go_wp2_with fail;generalize xs[k]=s at *;go_quiet (fail);go_wp2
   go_roundg (xs.length-(k+1))
   case measure=>have:=uh HG;omega
   case rel=>exact⟨k+1,by omega,rfl,by go_num,below_drewN hbl _⟩
  ·go_wp2
   go_ret;exact⟨rfl,hbl⟩
theorem a2i (x:lu) (a1 b1 a2 b2 a3 b3:Value) (w:cu) (h1:jc 1 16 xk 0 w a1 x.au) (g1:jc 1 16 xk 0 w b1 x.au) (h2:jc 3 32 Gg 0 w a2 x.code) (g2:jc 3 32 Gg 0 w b2 x.code) (h3:jc 1 24 Ih 0 w a3 x.args) (g3:jc 1 24 Ih 0 w b3 x.args) :
  Calls Tryz.prog 105 #[.agg #[.int .i64 x.kind,.string x.name,.int .i64 x.at_,a1,a2,a3],.agg #[.int .i64 x.kind,.string x.name,.int .i64 x.at_,b1,b2,b3]] w (Qv w):=by
 obtain⟨kd,s,at0,au,code,args⟩:=x;simp only at h1 g1 h2 g2 h3 g3;have H1:=ak h1;have G1:=ak g1;clear h1 g1;have H2:=ak h2;have G2:=ak g2;clear h2 g2;have H3:=ak h3;have G3:=ak g3;clear h3 g3;go_enter Tryz.func105,Tryz.ntmps105;have B0:Below w.heap.size w ((w.alloc (.cells _ _)).alloc (.cells _ _)):=((iq w.heap.size w).alloc (gu _) (.cells #[.int .i64 kd,.string s,.int .i64 at0,a1,a2,a3] 60)).alloc (by simp) (.cells #[.int .i64 kd,.string s,.int .i64 at0,b1,b2,b3] 60);go_wp2_with fail;refine(agt au _ _ _ ?_ ?_).mono ?_
 ·exact(uh H1).stays zk B0
 ·exact(uh G1).stays zk B0
 rintro e w1 ⟨rfl,hb⟩;obtain⟨hc1,hf1⟩:=aaj hb;have hz:=hb.size;have B1:Below w.heap.size w w1:=B0.trans (hb.mono B0.size)
 try simp only[Dy] at hz hc1 hf1
 have bd2:w.heap.size<w1.heap.size:=by omega
 have bd3:w.heap.size+1<w1.heap.size:=by omega
 clear hb hz;go_wp2_with fail;refine(aj7 code _ _ _ ?_ ?_).mono ?_
 ·exact(uh H2).stays Ad B1
 ·exact(uh G2).stays Ad B1
 rintro e w2 ⟨rfl,hb⟩;obtain⟨hc2,hf2⟩:=aaj hb;have hz:=hb.size;have B2:Below w.heap.size w w2:=B1.trans (hb.mono B1.size)
 try simp only[Dy] at hz hc2 hf2
 have bd4:w.heap.size<w2.heap.size:=by omega
 have bd5:w.heap.size+1<w2.heap.size:=by omega
 clear hb hz;go_wp2_with fail;refine(aqn args _ _ _ ?_ ?_).mono ?_
 ·exact(uh H3).stays I8 B2
 ·exact(uh G3).stays I8 B2
 rintro e w3 ⟨rfl,hb⟩;obtain⟨hc3,hf3⟩:=aaj hb;have hz:=hb.size;have B3:Below w.heap.size w w3:=B2.trans (hb.mono B2.size)
 try simp only[Dy] at hz hc3 hf3
 have bd6:w.heap.size<w3.heap.size:=by omega
 have bd7:w.heap.size+1<w3.heap.size:=by omega
 clear hb hz;go_wp2;go_ret;exact⟨rfl,B3⟩
theorem ax2 (xs:List lu) (v u:Value) (w:cu) (hv:jc 6 104 Zq 0 w v xs) (hu:jc 6 104 Zq 0 w u xs) :
  Calls Tryz.prog 74 #[v,u] w (Qv w):=by
 obtain⟨a,cap,rfl,_,hn,hx⟩:=hv;obtain⟨a2,cap2,rfl,_,_,hy⟩:=hu;unfold Len at hn;have HX:=ak hx;have HY:=ak hy;clear hx hy;go_enter Tryz.func74,Tryz.ntmps74;go_wp2
 go_loopg [5] xs.length (fun g i wr=>∃(k:Nat),k<=xs.length/\g=xs.length-k/\i=.int .i64 k/\Below w.heap.size w wr)
 case atStart=>exact⟨0,jg _,by omega,rfl,iq _ _⟩
 case round =>
  obtain⟨k,hk,hg,rfl,hbl⟩:=hrel;have HG:=ak hg;clear hg
  by_cases hlt:k<xs.length
  ·obtain⟨b,o,cs,rfl,_,hb,hcs,hc,hR⟩:=uh HX k hlt
   have hc:∀j (hj:j<cs.length),wr.cell? ⟨b,o+k*6+j,none⟩=some cs[j]:=fun j hj=>by rw[hbl.cell (p:=⟨b,_,none⟩) hb];exact hc j hj
   obtain⟨b2,o2,cs2,rfl,_,hb2,hcs2,hc2,hR2⟩:=uh HY k hlt;have hc2:∀j (hj:j<cs2.length),wr.cell? ⟨b2,o2+k*6+j,none⟩=some cs2[j]:=fun j hj=>by rw[hbl.cell (p:=⟨b2,_,none⟩) hb2];exact hc2 j hj
   have hR:=Px.stays _ _ _ _ _ hbl.drew hR;have hR2:=Px.stays _ _ _ _ _ hbl.drew hR2;obtain⟨l1,c1,a1,rfl,_,_,_,p1,p2,p3⟩:=hR;have P1:=ak p1;clear p1;have P2:=ak p2;clear p2;have P3:=ak p3;clear p3;obtain⟨l2,c2,a2,rfl,_,_,_,q1,q2,q3⟩:=hR2;have Q1:=ak q1;clear q1;have Q2:=ak q2;clear q2;have Q3:=ak q3;clear q3;have c0:=hc 0 (by simp);have d0:=hc2 0 (by simp);have c1:=hc 1 (by simp);have d1:=hc2 1 (by simp);have c2:=hc 2 (by simp);have d2:=hc2 2 (by simp);have c3:=hc 3 (by simp);have d3:=hc2 3 (by simp);have c4:=hc 4 (by simp);have d4:=hc2 4 (by simp);have c5:=hc 5 (by simp);have d5:=hc2 5 (by simp);simp only[jr,ji,og,ou] at c0 d0 c1 d1 c2 d2 c3 d3 c4 d4 c5 d5;clear hc hcs hc2 hcs2;have hlt':(k:Int)<(xs.length:Int):=by omega
   go_wp2_with fail
   go_region_with (go_at_call 105;refine(a2i _ _ _ _ _ _ _ _ (uh P1) (uh Q1) (uh P2) (uh Q2) (uh P3) (uh Q3)).mono ?_;rintro e w1 ⟨rfl,hb1⟩)
   all_goals
    go_wp2
    go_roundg (xs.length-(k+1))
    case measure=>have:=uh HG;omega
    case rel=>exact⟨k+1,by omega,rfl,by go_num,hbl.drew.trans (hb1.mono hbl.drew.size)⟩
  ·go_wp2
   go_ret;exact⟨rfl,hbl⟩
theorem aup (x:dw) (a1 b1 a2 b2 a3 b3 a4 b4 a5 b5 a6 b6:Value) (w:cu) (h1:jc 2 24 Oq 0 w a1 x.ins) (g1:jc 2 24 Oq 0 w b1 x.ins) (h2:jc 2 24 Oq 0 w a2 x.au) (g2:jc 2 24 Oq 0 w b2 x.au) (h3:jc 1 16 xk 0 w a3 x.iw) (g3:jc 1 16 xk 0 w b3 x.iw) (h4:jc 1 8 Jv 0 w a4 x.gq) (g4:jc 1 8 Jv 0 w b4 x.gq) (h5:jc 1 8 Jv 0 w a5 x.ay) (g5:jc 1 8 Jv 0 w b5 x.ay) (h6:jc 6 104 Zq 0 w a6 x.body) (g6:jc 6 104 Zq 0 w b6 x.body) :
  Calls Tryz.prog 40 #[.agg #[.string x.name,a1,a2,a3,a4,a5,a6],.agg #[.string x.name,b1,b2,b3,b4,b5,b6]] w (Qv w):=by
 obtain⟨s,ins,au,iw,gq,ay,body⟩:=x;simp only at h1 g1 h2 g2 h3 g3 h4 g4 h5 g5 h6 g6;have H1:=ak h1;have G1:=ak g1;clear h1 g1;have H2:=ak h2;have G2:=ak g2;clear h2 g2;have H3:=ak h3;have G3:=ak g3;clear h3 g3;have H4:=ak h4;have G4:=ak g4;clear h4 g4;have H5:=ak h5;have G5:=ak g5;clear h5 g5;have H6:=ak h6;have G6:=ak g6;clear h6 g6;go_enter Tryz.func40,Tryz.ntmps40;have B0:Below w.heap.size w ((w.alloc (.cells _ _)).alloc (.cells _ _)):=((iq w.heap.size w).alloc (gu _) (.cells #[.string s,a1,a2,a3,a4,a5,a6] 50)).alloc (by simp) (.cells #[.string s,b1,b2,b3,b4,b5,b6] 50);go_wp2_with fail;refine(aj8 ins _ _ _ ?_ ?_).mono ?_
 ·exact(uh H1).stays Ii B0
 ·exact(uh G1).stays Ii B0
 rintro e w1 ⟨rfl,hb⟩;obtain⟨hc1,hf1⟩:=aaj hb;have hz:=hb.size;have B1:Below w.heap.size w w1:=B0.trans (hb.mono B0.size)
 try simp only[Dy] at hz hc1 hf1
 have bd2:w.heap.size<w1.heap.size:=by omega
 have bd3:w.heap.size+1<w1.heap.size:=by omega
 clear hb hz;go_wp2_with fail;refine(aj8 au _ _ _ ?_ ?_).mono ?_
 ·exact(uh H2).stays Ii B1
 ·exact(uh G2).stays Ii B1
 rintro e w2 ⟨rfl,hb⟩;obtain⟨hc2,hf2⟩:=aaj hb;have hz:=hb.size;have B2:Below w.heap.size w w2:=B1.trans (hb.mono B1.size)
 try simp only[Dy] at hz hc2 hf2
 have bd4:w.heap.size<w2.heap.size:=by omega
 have bd5:w.heap.size+1<w2.heap.size:=by omega
 clear hb hz;go_wp2_with fail;refine(agt iw _ _ _ ?_ ?_).mono ?_
 ·exact(uh H3).stays zk B2
 ·exact(uh G3).stays zk B2
 rintro e w3 ⟨rfl,hb⟩;obtain⟨hc3,hf3⟩:=aaj hb;have hz:=hb.size;have B3:Below w.heap.size w w3:=B2.trans (hb.mono B2.size)
 try simp only[Dy] at hz hc3 hf3
 have bd6:w.heap.size<w3.heap.size:=by omega
 have bd7:w.heap.size+1<w3.heap.size:=by omega
 clear hb hz;go_wp2_with fail;refine(aml gq _ _ _ ?_ ?_).mono ?_
 ·exact(uh H4).stays E8 B3
 ·exact(uh G4).stays E8 B3
 rintro e w4 ⟨rfl,hb⟩;obtain⟨hc4,hf4⟩:=aaj hb;have hz:=hb.size;have B4:Below w.heap.size w w4:=B3.trans (hb.mono B3.size)
 try simp only[Dy] at hz hc4 hf4
 have bfk:w.heap.size<w4.heap.size:=by omega
 have bfl:w.heap.size+1<w4.heap.size:=by omega
 clear hb hz;go_wp2_with fail;refine(aml ay _ _ _ ?_ ?_).mono ?_
 ·exact(uh H5).stays E8 B4
 ·exact(uh G5).stays E8 B4
 rintro e w5 ⟨rfl,hb⟩;obtain⟨hc5,hf5⟩:=aaj hb;have hz:=hb.size;have B5:Below w.heap.size w w5:=B4.trans (hb.mono B4.size)
 try simp only[Dy] at hz hc5 hf5
 have bfm:w.heap.size<w5.heap.size:=by omega
 have bfn:w.heap.size+1<w5.heap.size:=by omega
 clear hb hz;go_wp2_with fail;refine(ax2 body _ _ _ ?_ ?_).mono ?_
 ·exact(uh H6).stays Px B5
 ·exact(uh G6).stays Px B5
 rintro e w6 ⟨rfl,hb⟩;obtain⟨hc6,hf6⟩:=aaj hb;have hz:=hb.size;have B6:Below w.heap.size w w6:=B5.trans (hb.mono B5.size)
 try simp only[Dy] at hz hc6 hf6
 have bfo:w.heap.size<w6.heap.size:=by omega
 have bfp:w.heap.size+1<w6.heap.size:=by omega
 clear hb hz;go_wp2;go_ret;exact⟨rfl,B6⟩
theorem aqo (xs:List dw) (v u:Value) (w:cu) (hv:jc 7 160 C9 0 w v xs) (hu:jc 7 160 C9 0 w u xs) :
  Calls Tryz.prog 16 #[v,u] w (Qv w):=by
 obtain⟨a,cap,rfl,_,hn,hx⟩:=hv;obtain⟨a2,cap2,rfl,_,_,hy⟩:=hu;unfold Len at hn;have HX:=ak hx;have HY:=ak hy;clear hx hy;go_enter Tryz.func16,Tryz.ntmps16;go_wp2
 go_loopg [5] xs.length (fun g i wr=>∃(k:Nat),k<=xs.length/\g=xs.length-k/\i=.int .i64 k/\Below w.heap.size w wr)
 case atStart=>exact⟨0,jg _,by omega,rfl,iq _ _⟩
 case round =>
  obtain⟨k,hk,hg,rfl,hbl⟩:=hrel;have HG:=ak hg;clear hg
  by_cases hlt:k<xs.length
  ·obtain⟨b,o,cs,rfl,_,hb,hcs,hc,hR⟩:=uh HX k hlt
   have hc:∀j (hj:j<cs.length),wr.cell? ⟨b,o+k*7+j,none⟩=some cs[j]:=fun j hj=>by rw[hbl.cell (p:=⟨b,_,none⟩) hb];exact hc j hj
   obtain⟨b2,o2,cs2,rfl,_,hb2,hcs2,hc2,hR2⟩:=uh HY k hlt;have hc2:∀j (hj:j<cs2.length),wr.cell? ⟨b2,o2+k*7+j,none⟩=some cs2[j]:=fun j hj=>by rw[hbl.cell (p:=⟨b2,_,none⟩) hb2];exact hc2 j hj
   have hR:=D9.stays _ _ _ _ _ hbl.drew hR;have hR2:=D9.stays _ _ _ _ _ hbl.drew hR2;obtain⟨i1,i2,i3,i4,i5,i6,rfl,_,p1,p2,p3,p4,p5,p6⟩:=hR;have P1:=ak p1;clear p1;have P2:=ak p2;clear p2;have P3:=ak p3;clear p3;have P4:=ak p4;clear p4;have P5:=ak p5;clear p5;have P6:=ak p6;clear p6;obtain⟨j1,j2,j3,j4,j5,j6,rfl,_,q1,q2,q3,q4,q5,q6⟩:=hR2;have Q1:=ak q1;clear q1;have Q2:=ak q2;clear q2;have Q3:=ak q3;clear q3;have Q4:=ak q4;clear q4;have Q5:=ak q5;clear q5;have Q6:=ak q6;clear q6;have c0:=hc 0 (by simp);have d0:=hc2 0 (by simp);have c1:=hc 1 (by simp);have d1:=hc2 1 (by simp);have c2:=hc 2 (by simp);have d2:=hc2 2 (by simp);have c3:=hc 3 (by simp);have d3:=hc2 3 (by simp);have c4:=hc 4 (by simp);have d4:=hc2 4 (by simp);have c5:=hc 5 (by simp);have d5:=hc2 5 (by simp);have c6:=hc 6 (by simp);have d6:=hc2 6 (by simp);simp only[jr,ji,og,ou] at c0 d0 c1 d1 c2 d2 c3 d3 c4 d4 c5 d5 c6 d6;clear hc hcs hc2 hcs2;have hlt':(k:Int)<(xs.length:Int):=by omega
   go_wp2_with fail
   go_region_with (go_at_call 40;refine(aup _ _ _ _ _ _ _ _ _ _ _ _ _ _ (uh P1) (uh Q1) (uh P2) (uh Q2) (uh P3) (uh Q3) (uh P4) (uh Q4) (uh P5) (uh Q5) (uh P6) (uh Q6)).mono ?_;rintro e w1 ⟨rfl,hb1⟩)
   all_goals
    go_wp2
    go_roundg (xs.length-(k+1))
    case measure=>have:=uh HG;omega
    case rel=>exact⟨k+1,by omega,rfl,by go_num,hbl.drew.trans (hb1.mono hbl.drew.size)⟩
  ·go_wp2
   go_ret;exact⟨rfl,hbl⟩
theorem af9 (ks:List dw) (v u:Value) (w:cu) (h1:jc 7 160 C9 0 w v ks) (g1:jc 7 160 C9 0 w u ks) :
  Calls Tryz.prog 6 #[.agg #[v],.agg #[u]] w (Qv w):=by
 have H1:=ak h1;have G1:=ak g1;clear h1 g1;have B0:Below w.heap.size w ((w.alloc (.cells _ _)).alloc (.cells _ _)):=((iq w.heap.size w).alloc (gu _) (.cells #[v] 24)).alloc (by simp) (.cells #[u] 24);go_enter Tryz.func6,Tryz.ntmps6;go_wp2_with fail;refine(aqo ks _ _ _ ?_ ?_).mono ?_
 ·exact(uh H1).stays D9 B0
 ·exact(uh G1).stays D9 B0
 rintro e w1 ⟨rfl,hb⟩;have B1:Below w.heap.size w w1:=B0.trans (hb.mono B0.size);go_wp2;go_ret;exact⟨rfl,B1⟩
end Go.Proofs.YtfeejeflmcapoaaGreatDoor
