import Derived.Test.YtfeejeflmcapoaaGreatDoorRows
import Derived.Test.YtfeejeflmcapoaaGreatDoorMXH
import Derived.Test.YtfeejeflmcapoaaGreatDoorRMT
import Derived.Test.YtfeejeflmcapoaaGreatDoorCards
import Derived.Test.YtfeejeflmcapoaaGreatDoorTie
import Derived.ProofKit
import Derived.LaidMore
import Derived.Lay
import Derived.ChangeMaps5
import Derived.Shelf.Vars
import Derived.Stop.Joined
import Derived.SevenTiedAt
import Derived.OpenShut
set_option linter.unusedSimpArgs false
set_option linter.unusedVariables false
set_option maxRecDepth 100000
namespace Go.Proofs.YtfeejeflmcapoaaGreatDoor
open Go.ChangeShapes Go.WideShapes Go.ChangeAt Go.RowKit
open Go.ChangeMaps (open_string shut_string)
theorem own:ownKnob Tryz.prog.godebug=none:=by kernel_rfl
theorem laidOut:laidOutB Tryz.prog=true:=by kernel_rfl
theorem var_below {P:Program} {w w':cu} {n:String} {g B:Nat} {cs:Array Value} (h:w.var? P n=some cs) (hg:P.globalNamed n=some g) (hb:Below B w w') (hlt:g<B):w'.var? P n=some cs:=by
 simp only[World.var?,hg,Option.bind_some] at *;rw[hb.block g hlt];exact h
theorem contract {H:Type} {enc:TypeId×Value->H} (W:cu) (base:Nat) (args:Array Value) (ds gs:List (DataW H)) (before:List MemPlace) (hval0:∀(j:Nat) t v,Tryz.f3.params[j]?=some t->args[j]?=some v->Value.okWide Tryz.prog W .any base t v)
  (hW:DataW.Whole enc Tryz.prog Tryz.f3.params.toList Rows.fnExactReadMachineSpec.vars false W args.toList ds gs before) (hL:laidMetH Tryz.prog ajn W) (hsh:W.ShapedOpen Tryz.prog) :
  Calls Tryz.prog 3 args W fun e W'=>∃v,e=.returned v/\Rows.fnExactReadMachineSpec.post enc Tryz.prog Tryz.f3 false true false false W args v W':=by
 have hval:∀(j:Nat) t v,Tryz.f3.params[j]?=some t->args[j]?=some v->Value.okWide Tryz.prog W .any base t v:=hval0;have hW':=hW;obtain⟨p,q,hA0,hV,rfl,hfz,hnd⟩:=hW;have hA:DataW.TrodAll enc Tryz.prog W 0 (fun _=>true) true Tryz.f3.params.toList args.toList ds p:=hA0;rw[Tryz.params3] at hA hval;obtain⟨v0,d0,rfl,rfl,h0⟩:=trodAll_one hA;obtain⟨s,rfl,rfl,rfl,ws⟩:=open_string Tryz.underlying9 (hval 0 9 v0 rfl rfl) h0;obtain⟨gv,tv,csv,fv,dv,pv,rfl,hgv,htv,hvv,hdv,rfl⟩:=trodVars_one hV;obtain rfl:=Gv (atp.symm.trans hgv);obtain rfl:=Gv (az1.symm.trans htv);obtain⟨hE1,hE2,hE3⟩:=aqb hL;have hmx:∃m,W.cell? ⟨0,0,none⟩=some (.int .i64 m):=cell_of_shapedOpen_int (P:=Tryz.prog) (t:=3) (zero:=#[.int .i64 0]) hsh (xw (by kernel_rfl)) (by kernel_rfl) rfl (by kernel_rfl) (by kernel_rfl) Tryz.underlying3;have hE:Za W:=⟨hE1,hmx,hE2,hE3⟩;have kv:DataW.Trod enc Tryz.prog W 0 (fun _=>true) true 161 (.agg csv) dv pv:=⟨fv,hdv⟩;have ltv:∀x∈pv,x.block<W.heap.size:=DataW.trod_lt fv _ _ _ hdv;clear hA0 hval0;refine(atq s W hE).mono fun e W' ⟨he,bel⟩=>?_
 subst he;obtain⟨fw,hfw⟩:=Below.trod laidOut (by kernel_rfl) (xw (by kernel_rfl)) kv bel ltv;exact⟨_,rfl,_,_,_,[],_,_,hW',trodAll_mk1 (shut_bool Tryz.underlying4 _),trodAll_mk1 (shut_string Tryz.underlying9 ws),trodVars_mk1 atp az1 (var_below hvv atp bel (qg (by decide) hE.env.three)) hfw,bel.frame _,fun h=>by cases h⟩
theorem lifted (os:Os) (started:os.Started) (H:Type) (enc:TypeId×Value->H) :
  ReturnsInHanded {} Tryz.checked os 3 .any (fun w args=>(Rows.fnExactReadMachineSpec.pre enc Tryz.prog Tryz.f3 [] false w args/\laidMetH Tryz.prog ajn w)/\sizedMet enc Tryz.prog Tryz.f3 (OpenSpec.ofChange Rows.fnExactReadMachineSpec) false w args)
   (Rows.fnExactReadMachineSpec.post enc Tryz.prog Tryz.f3 false true false false):=by
 refine returnsInHanded_of_calls own started (by kernel_rfl)
  (ChangeSpec.witness_shaped (enc:=enc) (C:=Tryz.checked) (os:=os) (X:=fun w _=>laidMetH Tryz.prog ajn w) false (World.laidAll Tryz.prog os ajn) #[.string ⟨#[]⟩] 8 (World.laidAll_os _ _ _)
   (World.shaped_of_ZipB (by kernel_rfl) (by kernel_rfl)) (by kernel_rfl) (by kernel_rfl) (by kernel_rfl)
   (by rw[MakeChecks.laidMetH_plain _ _ _ (by kernel_rfl)];exact laidMet_laidAll _ (by kernel_rfl) (by kernel_rfl))) ?_
 intro w tape i _ hsh _ hok hpre _;obtain⟨_,_,_,fn',hfn',_,_,_,_,hval⟩:=hok;have e:fn'=Tryz.f3:=Gv (hfn'.symm.trans Tryz.func3);subst e;obtain⟨⟨⟨ds,gs,before,hw,_⟩,hx⟩,_⟩:=hpre;have hw':=DataW.Whole.of_heap (w':=w.forCall tape i) (by rfl) hw;refine(contract (w.forCall tape i) w.heap.size i.args ds gs before hval hw' (hx.of_heap (by rfl)) hsh).mono fun e W' ⟨v,he,hp⟩=>?_
 subst he;exact ChangeSpec.post_blind hp
theorem over:Rows.fnExactReadMachineRow.holds Tryz.pinned (OpenSpec.ofChange Rows.fnExactReadMachineSpec) :=
 OpenClaim.holds_of_wide 3 Tryz.f3 rfl rfl rfl rfl rfl rfl rfl ⟨rfl,rfl,rfl,rfl,rfl⟩ rfl rfl rfl rfl rfl (by kernel_rfl) Tryz.func3 (by kernel_rfl)
  (xw (by kernel_rfl)) (by unfold Func.isWrapper;first|(rw[gy (by decide +kernel)];kernel_rfl)|(rw[bf (by decide +kernel)];exact⟨rfl,rfl⟩))
  (fun os started H enc _=>lifted os started H enc)
theorem aey:Rows.FnExactReadMachineSaid:=over
theorem readMachine_holds:Rows.FnExactReadMachineCardSaid :=
 Claim7.holds_tied_plain_at .later [] [.data,.data,.data,.data,.sentinel,.sentinel,.data,.pinned] true Rows.fnExactReadMachineCard.stood.harness true
  aey (fun _ h=>by cases h) (by kernel_rfl) (fun _ h=>by cases h) fnExactReadMachine_row_tie rfl ⟨rfl,rfl⟩ (by kernel_rfl) rfl
  (fun f fn hf hfn=>by
   obtain rfl : f = 3 := Gv ((show Tryz.prog.funcNamed "loop.example/s0043/laws.FnExactReadMachine" = some 3 by kernel_rfl).symm.trans hf) |>.symm;obtain rfl:fn=Tryz.f3:=(Gv (Tryz.func3.symm.trans hfn)).symm
   exact⟨by kernel_rfl,fun j t ht=>by
    rw[Tryz.params3] at ht;have hm:t∈[9]:=by simpa using Array.mem_of_getElem? ht
    have hall:([9].all fun u=>!Tryz.prog.wantsStandIn u)=true:=by kernel_rfl
    exact(show Tryz.prog.wantsStandIn t=false by simpa using yc.1 hall t hm)⟩)
  (by kernel_rfl)
#print axioms readMachine_holds
end Go.Proofs.YtfeejeflmcapoaaGreatDoor
