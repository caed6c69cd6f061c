import Derived.Test.YtajabbnlbopcbaaGreatDoorRows
import Derived.Test.YtajabbnlbopcbaaGreatDoorVP8
import Derived.Test.YtajabbnlbopcbaaGreatDoorCards
import Derived.Test.YtajabbnlbopcbaaGreatDoorTie
import Derived.ProofKit
import Derived.LaidMore
import Derived.Stop.Joined
import Derived.SevenTiedAt
import Derived.OpenShut
import Derived.ChangeOld
import Derived.SizedLaws
import Derived.Deep.Slices
namespace Go.Proofs.YtajabbnlbopcbaaGreatDoor
open Go.ChangeShapes Go.WideShapes Go.ChangeAt Go.RowKit
set_option linter.unusedVariables false
theorem own : ownKnob Tryz.prog.godebug = none:=by kernel_rfl
theorem laidOut : laidOutB Tryz.prog = true:=by kernel_rfl
section
variable {H : Type} {enc : TypeId × Value → H} {w : World} {spare : Nat → Bool} {held : Bool}
theorem rd_byte {n : Nat} {cs : List Value} {y : DataW H × List MemPlace} (h : DataW.trod enc Tryz.prog w 0 spare held n 5 cs = some y) : ∃ x : Int,RByte 0 w cs x:=by
 obtain ⟨n,rfl,_,hw⟩:=DataW.trod_int Tryz.underlying5 h
 simp [Lit.wf,IntKind.min,IntKind.max,IntKind.signed,IntKind.bits] at hw
 exact ⟨n,rfl,by omega,by omega⟩
theorem cByte : Tryz.prog.cellsOf 5 = 1:=by kernel_rfl
theorem bByte : Tryz.prog.bytesOf 5 = 1:=by kernel_rfl
theorem rd_code {fuel : Nat} {cs : List Value} {y : DataW H × List MemPlace} (h : DataW.trod enc Tryz.prog w 0 spare held fuel 22 cs = some y) (hw : ∀ n,n ∈ y.1.weights Tryz.prog 22 → n ≤ 140737488355328) : ∃ v xs,cs = [v] ∧ SlAt 1 1 RByte 0 w v xs:=by
 rcases Deep.open_slice Tryz.underlying22 h with ⟨rfl,_⟩ | ⟨a,len,cap,m,n,D,Pl,rfl,hb,hl,hm,hmm,rfl,hcl⟩
 ·exact ⟨_,[],rfl,none,0,rfl,⟨by simp [Len],Nat.le_refl _⟩,by simp [Len],fun i hi => absurd hi (Nat.not_lt_zero _)⟩
 ·have hlm : len ≤ m:=by rw [hmm]; split <;> omega
  simp only [DataW.weights,Tryz.underlying22,bByte] at hw
  have hlen : len ≤ 140737488355328:=by
   have:=hw _ (List.mem_cons_self ..)
   simp only [List.length_map,List.length_range] at this
   omega
  have he : ∀ i,i < len → ∃ x : Int,∃ cs',w.cells? 0 (a.add (i * 1)) 1 = some cs' ∧ RByte 0 w cs' x:=fun i hi => by
   obtain ⟨cs',hc1,hc2⟩:=hcl i (by omega)
   rw [cByte] at hc1
   obtain ⟨x,hx⟩:=rd_byte hc2
   exact ⟨x,cs',hc1,hx⟩
  refine ⟨_,List.ofFn (fun i : _root_.Fin len => Classical.choose (he i.1 i.2)),rfl,some a,cap,by rw [List.length_ofFn],⟨by unfold Len; rw [List.length_ofFn]; omega,by rw [List.length_ofFn]; exact hl⟩,by unfold Len; rw [List.length_ofFn]; exact hlen,fun i hi => ?_⟩
  have hi' : i < len:=by simpa using hi
  obtain ⟨cs',hc,hR⟩:=Classical.choose_spec (he i hi')
  obtain ⟨_,hcl',hcell⟩:=World.cells?_some hc
  have hblk:=World.cells?_block hc (by omega)
  obtain ⟨b,o,sp⟩:=a
  have hspot : sp = none:=by
   obtain ⟨_,cs0,hc0,_⟩:=he 0 (by omega)
   obtain ⟨_,hl0,hcell0⟩:=World.cells?_some hc0
   have c0:=hcell0 0 (by omega)
   rw [List.getElem?_eq_getElem (by omega)] at c0
   have:=World.cell?_spot c0
   simpa [Addr.add] using this
  subst hspot
  rw [Addr.add_lit] at hblk
  refine ⟨b,o,cs',rfl,Nat.zero_le _,hblk,hcl',fun j hj => ?_,?_⟩
  ·have cj:=hcell j (by omega)
   rw [Addr.add_lit,Addr.add_lit,List.getElem?_eq_getElem hj] at cj
   exact cj
  ·rw [List.getElem_ofFn]
   exact hR
end
theorem door_met (os : Os) (args : Array Value) : laidMetH Tryz.prog laid4 ((World.doorLaid Tryz.prog 4000 os).forCall (fun _ _ => 0) ⟨#[],args,[]⟩).memory :=
 laidMetH_of_parts3 (fuel:=8) (laidMet_of_run' 8 (by kernel_rfl) (by kernel_rfl)) (by kernel_rfl) (by kernel_rfl)
theorem var_below {P : Program} {w w' : World} {n : String} {g B : Nat} {cs : Array Value} (h : w.var? P n = some cs) (hg : P.globalNamed n = some g) (hb : Below B w w') (hlt : g < B) : w'.var? P n = some cs:=by
 simp only [World.var?,hg,Option.bind_some] at *
 rw [hb.block g hlt]
 exact h
set_option maxRecDepth 100000 in
theorem lifted (os : Os) (started : os.Started) (H : Type) (enc : TypeId × Value → H) :
  ReturnsInHanded {} Tryz.checked os 3 .any (fun w args => (Rows.fnRoundSpec.pre enc Tryz.prog Tryz.f3 [] false w args ∧ laidMetH Tryz.prog laid4 w) ∧ sizedMet enc Tryz.prog Tryz.f3 (OpenSpec.ofChange Rows.fnRoundSpec) false w args)
   (Rows.fnRoundSpec.post enc Tryz.prog Tryz.f3 false true false false):=by
 refine returnsInHanded_of_change_and (C:=Tryz.checked) (X:=fun w _ => laidMetH Tryz.prog laid4 w) (fun _ _ _ hh h => h.of_heap hh) own started (by kernel_rfl) Tryz.func3
  (ChangeSpec.witness_shaped (enc:=enc) (C:=Tryz.checked) (os:=os) (X:=fun w _ => laidMetH Tryz.prog laid4 w) false (World.doorLaid Tryz.prog 4000 os) #[.slice none 0 0] 8 rfl (World.shaped_of_RefB (by kernel_rfl) (by kernel_rfl)) (by kernel_rfl) (by kernel_rfl) (by kernel_rfl) (door_met os _)) ?_
 intro W base args ds gs before hval0 hW _ hsz hL _
 have hval : ∀ (j : Nat) t v,Tryz.f3.params[j]? = some t → args[j]? = some v → Value.okWide Tryz.prog W .any base t v:=hval0
 have hW':=hW
 obtain ⟨p,q,hA0,hV,rfl,hfz,hnd⟩:=hW
 have hA : DataW.TrodAll enc Tryz.prog W 0 (fun _ => true) true Tryz.f3.params.toList args.toList ds p:=hA0
 rw [Tryz.params3] at hA hval
 obtain ⟨v0,vs0,d0,ds0,p0,q0,hargs,rfl,rfl,h0,r0⟩:=trodAll_cons hA
 obtain ⟨rfl,rfl,rfl⟩:=trodAll_nil r0
 obtain rfl : args = #[v0]:=by cases args; simp_all
 obtain ⟨gv,tv,csv,fv,dv,pv,rfl,hgv,htv,hvv,hdv,rfl⟩:=trodVars_one hV
 obtain rfl:=Option.some.inj (gOps.symm.trans hgv)
 obtain rfl:=Option.some.inj (tOps.symm.trans htv)
 have hE:=env_of_laid hL
 have kv : DataW.Trod enc Tryz.prog W 0 (fun _ => true) true 146 (.agg csv) dv pv:=⟨fv,hdv⟩
 have ltv : ∀ x ∈ pv,x.block < W.heap.size:=DataW.trod_lt fv _ _ _ hdv
 have k0:=h0
 have lt0 : ∀ x ∈ p0,x.block < W.heap.size:=by obtain ⟨m,hm⟩:=k0; exact DataW.trod_lt m _ _ _ hm
 have hwk : ∀ n,n ∈ d0.weights Tryz.prog 22 → n ≤ 140737488355328:=fun n hn => by
  have h2 : decide (n ≤ reachBytes) = true:=List.all_eq_true.1 hsz n (DataW.weights_mem_each (j:=0) (t:=22) rfl rfl n hn)
  have h3:=of_decide_eq_true h2
  unfold reachBytes at h3
  omega
 obtain ⟨fuel,hf⟩:=h0
 obtain ⟨a0,n0,c0,rfl⟩:=okWide_slice Tryz.underlying22 (hval 0 22 v0 rfl rfl)
 obtain ⟨v,xs,hv,hS⟩:=rd_code hf hwk
 obtain rfl : Value.slice a0 n0 c0 = v:=(List.cons.inj (show [Value.slice a0 n0 c0] = [v] from hv)).1
 refine (law_ok xs _ W hE hS).mono fun e W' ⟨he,bel⟩ => ?_
 subst he
 obtain ⟨fw,hfw⟩:=Below.trod laidOut (by kernel_rfl) (of_decide_eq_true (by kernel_rfl)) kv bel ltv
 exact ⟨_,rfl,_,_,_,[],_,_,hW',trodAll_mk1 (shut_bool Tryz.underlying4 _),(trodAll_cons_mk (Below.trod laidOut (by kernel_rfl) (of_decide_eq_true (by kernel_rfl)) k0 bel lt0) trodAll_mk0),trodVars_mk1 gOps tOps (var_below hvv gOps bel (by have:=hE.three; omega)) hfw,bel.frame _,fun h => by cases h⟩
theorem over : Rows.fnRoundRow.holds Tryz.pinned (OpenSpec.ofChange Rows.fnRoundSpec) :=
 OpenClaim.holds_of_wide 3 Tryz.f3 rfl rfl rfl rfl rfl rfl rfl ⟨rfl,rfl,rfl,rfl,rfl⟩ rfl rfl rfl rfl rfl (by kernel_rfl) Tryz.func3 (by kernel_rfl)
  (of_decide_eq_true (by kernel_rfl)) (by unfold Func.isWrapper; first | (rw [if_pos (by decide +kernel)]; kernel_rfl) | (rw [if_neg (by decide +kernel)]; exact ⟨rfl,rfl⟩))
  (fun os started H enc _ => lifted os started H enc)
theorem roundRow_holds : Rows.FnRoundSaid:=over
theorem round_holds : Rows.FnRoundCardSaid :=
 Claim7.holds_tied_plain_at .later [] [.data,.data,.data,.data] true Rows.fnRoundCard.stood.harness true
  roundRow_holds (fun _ h => by cases h) (by kernel_rfl) (fun _ h => by cases h) fnRound_row_tie rfl ⟨rfl,rfl⟩ (by kernel_rfl) rfl
  (fun f fn hf hfn => by
   obtain rfl : f = 3 := Option.some.inj ((show Tryz.prog.funcNamed "loop.example/s0043/laws.FnRound" = some 3 by kernel_rfl).symm.trans hf) |>.symm
   obtain rfl : fn = Tryz.f3:=(Option.some.inj (Tryz.func3.symm.trans hfn)).symm
   exact ⟨by kernel_rfl,fun j t ht => by
    rw [Tryz.params3] at ht
    have hm : t ∈ [22]:=by simpa using Array.mem_of_getElem? ht
    have hall : ([22].all fun u => !Tryz.prog.wantsStandIn u) = true:=by kernel_rfl
    exact (show Tryz.prog.wantsStandIn t = false by simpa using List.all_eq_true.1 hall t hm)⟩)
  (by kernel_rfl)
#print axioms round_holds
end Go.Proofs.YtajabbnlbopcbaaGreatDoor
