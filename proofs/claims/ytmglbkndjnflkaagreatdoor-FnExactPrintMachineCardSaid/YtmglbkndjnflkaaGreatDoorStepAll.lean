import Derived.Test.YtmglbkndjnflkaaGreatDoorM11
import Derived.Deep.RegionLaw
namespace Go.Proofs.YtmglbkndjnflkaaGreatDoor
open Go.RowKit
set_option linter.unusedSimpArgs false
set_option linter.unusedVariables false

/-- 'append(xs, ys...)', xs not nil, as one step of a region that draws its order. -/
theorem step_append_allF {P : Program} {α : Type} (E : ElF P α) {R : Nat → World → List Value → α → Prop} (hRf : ∀ w cs x, R 0 w cs x → cs = E.f x) (w : World) {ops : Array Oper} {o : Oper} {a : Act} {K : Act → World → Prop} {Q : Exit → Act → World → Prop} {Er : Prop} (hgd : o.guard = none) (s x : Operand)
    (ho : o.op = .call { callee := .builtin .append, args := #[s, x], argTypes := #[E.ST, E.ST] })
    (base g cap : Nat) (xs : List α) (hs : a.eval s = .slice (some ⟨g, 0, none⟩) xs.length cap) (hown : OwnV E w base (.slice (some ⟨g, 0, none⟩) xs.length cap) xs)
    (xv : Value) (hx : a.eval x = xv) (ys : List α) (hsl : SlAt E.sz E.byt R 0 w xv ys) (hb : (xs.length + ys.length) * E.byt ≤ 140737488355328) (hbase : base ≤ w.heap.size)
    (h : ∀ g' cap' w', OwnV E w' base (.slice (some ⟨g', 0, none⟩) (xs.length + ys.length) cap') (xs ++ ys) → w.grownBy w' (some g) → K (a.put o.dst (.slice (some ⟨g', 0, none⟩) (xs.length + ys.length) cap')) w') :
    if Region.wanted o (yielded ops a.tmps) = true then Oper.wp P o a w K Q else Er := by
  have hwant : Region.wanted o (yielded ops a.tmps) = true := by simp [Region.wanted, hgd]
  rw [if_pos hwant]
  obtain ⟨i, hi, hz0, hz1, hz2⟩ := info_parts E.hi
  obtain ⟨ax, cx, rfl, _, hn, hel⟩ := hsl
  have hlen : xs.length + ys.length ≤ 140737488355328 := Nat.le_trans (Nat.le_mul_of_pos_right _ E.hby) hb
  have hcap : xs.length ≤ cap := by
    rcases hown.shape with ⟨hh, _⟩ | ⟨g1, cap1, hv, _, _, h2⟩
    · cases hh
    · simp only [Value.slice.injEq] at hv
      obtain ⟨_, _, rfl⟩ := hv
      exact h2
  cases ax with
  | none =>
    have hy : ys = [] := by
      cases ys with
      | nil => rfl
      | cons y ys =>
        obtain ⟨b, o, cs, hbo, _⟩ := hel 0 (by simp)
        cases hbo
    subst hy
    have hrun := run_append_room_src (P := P) w E.ST E.ST o.type E.T i E.hT hi g 0 xs.length cap (.slice none 0 cx) 0 [] (Src.ofNil w E.hT cx) (by omega) (fun j hj => by simp at hj) (fun j hj => by simp at hj)
    unfold Oper.wp execOp
    simp only [ho, resolve, invoke, builtin, Sem.run_bind, Sem.run_pure, Result.andThen_ok, List.map_toArray, List.map_cons, List.map_nil, hs, hx, hrun, List.length_nil]
    have hsc : w.setCells g (0 + xs.length * i.size) [] = w := by simp [World.setCells]
    rw [hsc]
    have := h g cap w (by simpa using hown) (World.grownBy.refl w _)
    simp only [List.length_nil, Nat.add_zero] at this ⊢
    exact this
  | some ad =>
    have hcellA : ∀ j u, (ys.flatMap E.f)[j]? = some u → w.cell? (ad.add j) = some u := fun j u hu => by
      have hj : j < ys.length * E.sz := by
        have := (List.getElem?_eq_some_iff.1 hu).1
        rwa [flat_len E.f E.sz E.hf] at this
      have hsz := E.hsz
      have hdiv : j / E.sz < ys.length := Nat.div_lt_of_lt_mul (by rw [Nat.mul_comm]; exact hj)
      have hmod : j % E.sz < E.sz := Nat.mod_lt _ hsz
      have hjj : j / E.sz * E.sz + j % E.sz = j := by rw [Nat.mul_comm]; exact Nat.div_add_mod j E.sz
      obtain ⟨b, oo, cs, hbo, _, _, hl, hc, hR⟩ := hel (j / E.sz) hdiv
      simp only [Option.some.injEq] at hbo
      subst hbo
      have ecs := hRf _ _ _ hR
      subst ecs
      have hg := flat_get E.f E.sz E.hf ys (j / E.sz) hdiv (j % E.sz) hmod
      rw [hjj, hu] at hg
      obtain ⟨hjl, hju⟩ := List.getElem?_eq_some_iff.1 hg.symm
      have hcc := hc (j % E.sz) hjl
      rw [hju] at hcc
      rw [Addr.add_lit, ← hcc]
      congr 2
      omega
    refine wp_append_own w s x E.ST ho base E.T i _ E.sz E.byt E.hT hi hz0 hz1 hz2 E.hz E.hsz _ xs.length (xs.flatMap E.f) hs hown ad ys.length cx (ys.flatMap E.f) hx (flat_len E.f E.sz E.hf ys) hcellA (fun u hu => ?_) (by simp [maxLen]; omega) hb hbase ?_
    · obtain ⟨y, _, hy⟩ := List.mem_flatMap.1 hu
      exact E.h1 y u hy
    · intro v' w' h1 h2 h3
      obtain ⟨hl, hh⟩ := h1
      rcases hh with ⟨rfl, _⟩ | ⟨g', cap', cur, rfl, hr⟩
      · have := h3.1 rfl
        cases this.1
      · refine h g' cap' w' ⟨?_, Or.inr ⟨g', cap', cur, by rw [List.length_append], ?_⟩⟩ h2
        · rw [List.length_append, List.flatMap_append]
          exact hl
        · rw [List.length_append, List.flatMap_append]
          exact hr

def elSlot : ElF Tryz.prog DSlot where
  T := 42
  ST := 36
  sz := 2
  byt := 24
  f := fun t => [.string t.name, .int .i64 t.type]
  z := .agg #[.string ByteArray.empty, .int .i64 0]
  hT := Tryz.underlying36
  hi := by kernel_rfl
  hz := rfl
  hf := fun _ => rfl
  h1 := fun c u hu => by
    simp only [List.mem_cons, List.not_mem_nil, or_false] at hu
    rcases hu with rfl | rfl <;> rfl
  hsz := by decide
  hby := by decide
theorem RSlot_f : ∀ (w : World) (cs : List Value) (x : DSlot), RSlot 0 w cs x → cs = elSlot.f x := fun _ _ _ h => h.1

end Go.Proofs.YtmglbkndjnflkaaGreatDoor
namespace Go.Proofs.YtmglbkndjnflkaaGreatDoor
open Go.RowKit
set_option linter.unusedSimpArgs false
set_option linter.unusedVariables false

theorem l2Wrap_ok (v : Int) (w : World) :
    Calls Tryz.prog 39 #[.int .i64 v] w fun e w' => e = .returned (.int .i64 (IntKind.i32.wrap v)) ∧ w' = w := by
  go_enter Tryz.func39, Tryz.ntmps39
  go_wp2
  go_ret
  exact ⟨ret_int (by unfold wrap64 wrap32; rw [IntKind.wrap_i32]; omega), rfl⟩

end Go.Proofs.YtmglbkndjnflkaaGreatDoor
