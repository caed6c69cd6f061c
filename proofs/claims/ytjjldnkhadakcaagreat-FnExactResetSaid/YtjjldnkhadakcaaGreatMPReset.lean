import Derived.Test.YtjjldnkhadakcaaGreatRows
import Derived.Test.YtjjldnkhadakcaaGreatMLReset
import Derived.Test.YtjjldnkhadakcaaGreatRead
import Derived.OpenShut
namespace Go.Proofs.YtjjldnkhadakcaaGreat
open Go.ChangeShapes Go.WideShapes Go.ChangeAt Go.RowKit
set_option linter.unusedVariables false

theorem own : ownKnob Tryz.prog.godebug = none := by kernel_rfl
theorem laidOut : laidOutB Tryz.prog = true := by kernel_rfl

set_option maxRecDepth 100000 in
theorem lifted (os : Os) (started : os.Started) (H : Type) (enc : TypeId × Value → H) :
    ReturnsInHanded {} Tryz.checked os 6 .any (Rows.fnExactResetSpec.pre6 enc Tryz.prog Tryz.f6 Rows.fnExactResetRow.domain false) (Rows.fnExactResetSpec.post enc Tryz.prog Tryz.f6 false true false false) := by
  refine returnsInHanded_of_change_sized (C := Tryz.checked) own started (by kernel_rfl) Tryz.func6
    (ChangeSpec.witness6 (enc := enc) (C := Tryz.checked) false ⟨#[], #[.agg #[.slice none 0 0], .int .i64 0], []⟩ 8 (by kernel_rfl) (by kernel_rfl) (by kernel_rfl) (by kernel_rfl)) ?_
  intro W base args ds gs before hval0 hW hcnd hsz _
  have hval : ∀ (j : Nat) t v, Tryz.f6.params[j]? = some t → args[j]? = some v → Value.okWide Tryz.prog W .any base t v := hval0
  have hW' := hW
  obtain ⟨p, q, hA0, hV, rfl, hfz, hnd⟩ := hW
  have hA : DataW.TrodAll enc Tryz.prog W 0 (fun _ => true) true Tryz.f6.params.toList args.toList ds p := hA0
  rw [Tryz.params6] at hA hval
  obtain ⟨v0, vs0, d0, ds0, p0, q0, hargs, rfl, rfl, h0, r00⟩ := trodAll_cons hA
  obtain ⟨v9, vs9, d9, ds9, p9, q9, hargs9, rfl, rfl, h9, r0⟩ := trodAll_cons r00
  obtain ⟨rfl, rfl, rfl⟩ := trodAll_nil r0
  obtain rfl : args = #[v0, v9] := by cases args; simp_all
  have k9 := h9
  have lt9 : ∀ x ∈ p9, x.block < W.heap.size := by obtain ⟨m, hm⟩ := k9; exact DataW.trod_lt m _ _ _ hm
  obtain ⟨nd, rfl, hnd1, hnd2, hnd3⟩ := open_int Tryz.underlying3 (hval 1 3 v9 rfl rfl) h9
  obtain ⟨rfl, rfl⟩ := trodVars_none hV
  have k0 := h0
  have lt0 : ∀ x ∈ p0, x.block < W.heap.size := by obtain ⟨m, hm⟩ := k0; exact DataW.trod_lt m _ _ _ hm
  obtain ⟨cs, rfl, hcs⟩ := okWide_struct Tryz.underlying24 (hval 0 24 v0 rfl rfl)
  have hwk : WOK 24 d0 := fun n hn => by
    have h2 : decide (n ≤ reachBytes) = true := List.all_eq_true.1 hsz n (DataW.weights_mem_each (j := 0) (t := 24) rfl rfl n hn)
    have h3 := of_decide_eq_true h2
    unfold reachBytes at h3
    omega
  obtain ⟨fuel, hf⟩ := h0
  obtain ⟨ys, m, _, hx, hl, hyl, hfl⟩ := DataW.trod_struct Tryz.underlying24 hf
  rw [cells_Mach] at hl
  obtain ⟨c0, hc0⟩ := list1 hl
  obtain ⟨y0, rfl⟩ := list1 (show ys.length = 1 from hyl)
  have f0 : DataW.trod enc Tryz.prog W 0 (fun _ => true) true m 22 (((Value.agg cs).cells.toList.drop 0).take (Tryz.prog.cellsOf 22)) = some y0 := hfl 0 _ rfl
  rw [cells_SClass, hc0] at f0
  replace f0 : DataW.trod enc Tryz.prog W 0 (fun _ => true) true m 22 [c0] = some y0 := f0
  have ecs : cs = #[c0] := by
    have : cs.toList = [c0] := hc0
    cases cs
    simpa using this
  subst ecs
  simp only [Prod.mk.injEq] at hx
  have hd0 : d0 = .agg [y0.1] := hx.1
  have w0 : WOK 22 y0.1 := fun n hn => hwk n (by
    rw [hd0]
    simp only [DataW.weights, Tryz.underlying24, List.map_cons, List.map_nil, DataW.weightsEach, List.append_nil]
    exact hn)
  obtain ⟨v, ns, hv, hS⟩ := rd_slice (R := RClass) Tryz.underlying22 cells_Class bytes_Class (by decide) (by decide) (fun n cs d pl h hw => rd_Class n cs d pl h hw) f0 w0
  obtain rfl : c0 = v := by simpa using hv
  clear hA0 hval0
  refine (lawReset_ok ns nd c0 W hS (by first | exact wf_I64 hnd1 | exact wf_I64 hnd2 | exact wf_I64 hnd3 | (unfold I64; omega))).mono fun e W' ⟨he, bel⟩ => ?_
  subst he
  exact ⟨_, rfl, _, _, _, [], _, [], hW', trodAll_mk1 (shut_bool Tryz.underlying4 _), (trodAll_cons_mk (Below.trod laidOut (by kernel_rfl) (of_decide_eq_true (by kernel_rfl)) k0 bel lt0) (trodAll_cons_mk (Below.trod laidOut (by kernel_rfl) (of_decide_eq_true (by kernel_rfl)) k9 bel lt9) trodAll_mk0)), rfl, bel.frame _, fun h => by cases h⟩

theorem over : Rows.fnExactResetRow.holds Tryz.pinned (OpenSpec.ofChange Rows.fnExactResetSpec) :=
  OpenClaim.holds_of_wide 6 Tryz.f6 rfl rfl rfl rfl rfl rfl rfl ⟨rfl, rfl, rfl, rfl, rfl⟩ rfl rfl rfl rfl rfl (by kernel_rfl) Tryz.func6 (by kernel_rfl)
    (of_decide_eq_true (by kernel_rfl)) (by unfold Func.isWrapper; first | (rw [if_pos (by decide +kernel)]; kernel_rfl) | (rw [if_neg (by decide +kernel)]; exact ⟨rfl, rfl⟩))
    (fun os started H enc _ => lifted os started H enc)

theorem reset_holds : Rows.FnExactResetSaid := over
#print axioms reset_holds
end Go.Proofs.YtjjldnkhadakcaaGreat
