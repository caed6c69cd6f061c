import Derived.Test.YtmglbkndjnflkaaGreatDoorMI12
import Derived.Test.YtmglbkndjnflkaaGreatDoorMI17
namespace Go.Proofs.YtmglbkndjnflkaaGreatDoor
open Go.RowKit
set_option linter.unusedSimpArgs false
set_option linter.unusedVariables false

def el32 : ElF Tryz.prog Int where
  T := 21
  ST := 100
  sz := 1
  byt := 4
  f := fun t => [.int .i32 t]
  z := .int .i32 0
  hT := Tryz.underlying100
  hi := by kernel_rfl
  hz := rfl
  hf := fun _ => rfl
  h1 := fun c u hu => by
    simp only [List.mem_cons, List.not_mem_nil, or_false] at hu
    rcases hu with rfl
    rfl
  hsz := by decide
  hby := by decide
def elInst : ElF Tryz.prog (Nat × Nat) where
  T := 147
  ST := 99
  sz := 2
  byt := 16
  f := fun t => [.pointer (some ⟨t.1, 0, none⟩), .int .i64 t.2]
  z := .agg #[.pointer none, .int .i64 0]
  hT := Tryz.underlying99
  hi := by kernel_rfl
  hz := rfl
  hf := fun _ => rfl
  h1 := fun c u hu => by
    simp only [List.mem_cons, List.not_mem_nil, or_false] at hu
    rcases hu with rfl | rfl <;> rfl
  hsz := by decide
  hby := by decide
def elPtr : ElF Tryz.prog Nat where
  T := 95
  ST := 67
  sz := 1
  byt := 8
  f := fun t => [.pointer (some ⟨t, 0, none⟩)]
  z := .pointer none
  hT := Tryz.underlying67
  hi := by kernel_rfl
  hz := rfl
  hf := fun _ => rfl
  h1 := fun c u hu => by
    simp only [List.mem_cons, List.not_mem_nil, or_false] at hu
    rcases hu with rfl
    rfl
  hsz := by decide
  hby := by decide
def RI32 (_ : Nat) (_ : World) (cs : List Value) (x : Int) : Prop := cs = [.int .i32 x]
def RPtr (_ : Nat) (_ : World) (cs : List Value) (x : Nat) : Prop := cs = [.pointer (some ⟨x, 0, none⟩)]
theorem RI32_kept : KeptBy RI32 := fun _ _ _ _ _ _ h => h
theorem RPtr_kept : KeptBy RPtr := fun _ _ _ _ _ _ h => h
theorem RI32_any : ∀ (w w' : World) (cs : List Value) (x : Int), RI32 0 w cs x → RI32 0 w' cs x := fun _ _ _ _ h => h
theorem RInst_any : ∀ (w w' : World) (cs : List Value) (x : Nat × Nat), RInst 0 w cs x → RInst 0 w' cs x := fun _ _ _ _ h => h

/-- 'append(xs, y)' of one. -/
theorem run_append_one {P : Program} {α : Type} (E : ElF P α) (w : World) (ty : TypeId) (base : Nat) (v : Value) (xs : List α) (hown : OwnV E w base v xs)
    (eb : Nat) (y : α) (hy : ∀ j u, (E.f y)[j]? = some u → w.cell? ⟨eb, j, none⟩ = some u) (hb : (xs.length + 1) * E.byt ≤ 140737488355328) (hbase : base ≤ w.heap.size) :
    ∃ v' w', (Builtin.append_ #[E.ST, E.ST] ty #[v, .slice (some ⟨eb, 0, none⟩) 1 1]).run P w = .ok v' w' ∧ OwnV E w' base v' (xs ++ [y]) ∧ w.grownBy w' v.ownBlock ∧ (∀ b, v'.ownBlock = some b → v.ownBlock = some b ∨ w.heap.size ≤ b) := by
  obtain ⟨i, hi, hz0, hz1, hz2⟩ := info_parts E.hi
  have hlen : xs.length + 1 ≤ 140737488355328 := Nat.le_trans (Nat.le_mul_of_pos_right _ E.hby) hb
  obtain ⟨v', w', hr, h2, h3, h4⟩ := run_append_new (P := P) (w := w) base E.ST ty E.T i _ E.sz E.byt E.hT hi hz0 hz1 hz2 E.hz E.hsz v xs.length (xs.flatMap E.f) hown ⟨eb, 0, none⟩ 1 1 (E.f y) (by rw [E.hf]; omega) (fun j u hu => by rw [Addr.add_lit, Nat.zero_add]; exact hy j u hu) (E.h1 y) (by simp [maxLen]; omega) hb hbase
  refine ⟨v', w', hr, ?_, h3, h4⟩
  unfold OwnV
  rw [List.length_append, List.flatMap_append]
  simpa using h2
/-- 'append(xs, ys...)', xs not nil. -/
theorem run_append_all {P : Program} {α : Type} (E : ElF P α) {R : Nat → World → List Value → α → Prop} (hRf : ∀ w cs x, R 0 w cs x → cs = E.f x) (w : World) (ty : TypeId)
    (base g cap : Nat) (xs : List α) (hown : OwnV E w base (.slice (some ⟨g, 0, none⟩) xs.length cap) xs)
    (xv : Value) (ys : List α) (hsl : SlAt E.sz E.byt R 0 w xv ys) (hb : (xs.length + ys.length) * E.byt ≤ 140737488355328) (hbase : base ≤ w.heap.size) :
    ∃ g' cap' w', (Builtin.append_ #[E.ST, E.ST] ty #[.slice (some ⟨g, 0, none⟩) xs.length cap, xv]).run P w = .ok (.slice (some ⟨g', 0, none⟩) (xs.length + ys.length) cap') w' ∧ OwnV E w' base (.slice (some ⟨g', 0, none⟩) (xs.length + ys.length) cap') (xs ++ ys) ∧ w.grownBy w' (some g) := by
  obtain ⟨i, hi, hz0, hz1, hz2⟩ := info_parts E.hi
  obtain ⟨ax, cx, rfl, _, hn, hel⟩ := hsl
  have hlen : xs.length + ys.length ≤ 140737488355328 := Nat.le_trans (Nat.le_mul_of_pos_right _ E.hby) hb
  have hcap : xs.length ≤ cap := by
    rcases hown.shape with ⟨hh, _⟩ | ⟨g1, cap1, hv, _, _, h2⟩
    · cases hh
    · simp only [Value.slice.injEq] at hv
      obtain ⟨_, _, rfl⟩ := hv
      exact h2
  cases ax with
  | none =>
    have hy : ys = [] := by
      cases ys with
      | nil => rfl
      | cons y ys =>
        obtain ⟨b, o, cs, hbo, _⟩ := hel 0 (by simp)
        cases hbo
    subst hy
    have hrun := run_append_room_src (P := P) w E.ST E.ST ty E.T i E.hT hi g 0 xs.length cap (.slice none 0 cx) 0 [] (Src.ofNil w E.hT cx) (by omega) (fun j hj => by simp at hj) (fun j hj => by simp at hj)
    have hsc : w.setCells g (0 + xs.length * i.size) [] = w := by simp [World.setCells]
    rw [hsc] at hrun
    exact ⟨g, cap, w, by simpa using hrun, by simpa using hown, World.grownBy.refl w _⟩
  | some ad =>
    have hcellA : ∀ j u, (ys.flatMap E.f)[j]? = some u → w.cell? (ad.add j) = some u := fun j u hu => by
      have hj : j < ys.length * E.sz := by
        have := (List.getElem?_eq_some_iff.1 hu).1
        rwa [flat_len E.f E.sz E.hf] at this
      have hsz := E.hsz
      have hdiv : j / E.sz < ys.length := Nat.div_lt_of_lt_mul (by rw [Nat.mul_comm]; exact hj)
      have hmod : j % E.sz < E.sz := Nat.mod_lt _ hsz
      have hjj : j / E.sz * E.sz + j % E.sz = j := by rw [Nat.mul_comm]; exact Nat.div_add_mod j E.sz
      obtain ⟨b, oo, cs, hbo, _, _, hl, hc, hR⟩ := hel (j / E.sz) hdiv
      simp only [Option.some.injEq] at hbo
      subst hbo
      have ecs := hRf _ _ _ hR
      subst ecs
      have hg := flat_get E.f E.sz E.hf ys (j / E.sz) hdiv (j % E.sz) hmod
      rw [hjj, hu] at hg
      obtain ⟨hjl, hju⟩ := List.getElem?_eq_some_iff.1 hg.symm
      have hcc := hc (j % E.sz) hjl
      rw [hju] at hcc
      rw [Addr.add_lit, ← hcc]
      congr 2
      omega
    obtain ⟨v', w', hr, h1, h2, h3⟩ := run_append_own (P := P) w base E.ST ty E.T i _ E.sz E.byt E.hT hi hz0 hz1 hz2 E.hz E.hsz _ xs.length (xs.flatMap E.f) hown ad ys.length cx (ys.flatMap E.f) (flat_len E.f E.sz E.hf ys) hcellA (fun u hu => by obtain ⟨y, _, hy⟩ := List.mem_flatMap.1 hu; exact E.h1 y u hy) (by simp [maxLen]; omega) hb hbase
    obtain ⟨hl, hh⟩ := h1
    rcases hh with ⟨rfl, _⟩ | ⟨g', cap', cur, rfl, hrr⟩
    · have := h3.1 rfl
      cases this.1
    · refine ⟨g', cap', w', hr, ⟨?_, Or.inr ⟨g', cap', cur, by rw [List.length_append], ?_⟩⟩, h2⟩
      · rw [List.length_append, List.flatMap_append]
        exact hl
      · rw [List.length_append, List.flatMap_append]
        exact hrr

/-- A row that was made and filled. -/
def fillOK (xs : List Int) (i : Nat) (cs : Array Value) : Prop := cs.size = xs.length ∧ ∀ j (hj : j < xs.length), j < i → cs[j]? = some (.int .i32 xs[j])
theorem fillOK.next {xs : List Int} {i : Nat} {cs : Array Value} (h : fillOK xs i cs) (hi : i < xs.length) : fillOK xs (i + 1) (cs.setIfInBounds i (.int .i32 xs[i])) := by
  refine ⟨by rw [Array.size_setIfInBounds]; exact h.1, fun j hj hji => ?_⟩
  rw [Array.getElem?_setIfInBounds]
  by_cases e : i = j
  · subst e
    rw [if_pos rfl, if_pos (by rw [h.1]; exact hi)]
  · rw [if_neg e]
    exact h.2 j hj (by omega)
theorem flat32 (xs : List Int) : xs.flatMap el32.f = xs.map (fun x => Value.int .i32 x) := by
  induction xs with
  | nil => rfl
  | cons x xs ih => rw [List.flatMap_cons, ih]; rfl
theorem wrap_fit (x : Int) (h : valB x = true) : IntKind.i32.wrap x = x := by
  unfold valB at h
  have h := of_decide_eq_true h
  rw [IntKind.wrap_i32]
  omega
theorem mem_val (v : Int) : memB v = valB v := by
  rw [Bool.eq_iff_iff]
  unfold memB valB
  rw [beq_iff_eq, decide_eq_true_iff, IntKind.wrap_i32]
  omega
theorem fillOK.own {xs : List Int} {cs : Array Value} {w : World} {g base : Nat} (h : fillOK xs xs.length cs) (hb : BlkAt w g 21 cs) (hg : base ≤ g) (hn : xs.length ≤ 1000000) : OwnV el32 w base (.slice (some ⟨g, 0, none⟩) xs.length xs.length) xs := by
  have e : cs.toList = xs.map (fun x => Value.int .i32 x) := by
    apply List.ext_getElem?
    intro i
    by_cases hi : i < xs.length
    · rw [Array.getElem?_toList, h.2 i hi hi, List.getElem?_map, List.getElem?_eq_getElem hi]
      rfl
    · rw [List.getElem?_eq_none (by rw [Array.length_toList, h.1]; omega), List.getElem?_eq_none (by rw [List.length_map]; omega)]
  have e2 := flat32 xs
  refine ⟨by rw [e2, List.length_map]; simp [el32], Or.inr ⟨g, xs.length, cs, rfl, hg, hb, Nat.le_refl _, by simp [maxLen]; omega, by rw [h.1]; simp [el32], ?_⟩⟩
  rw [e, e2]
  exact List.take_of_length_le (by simp [el32])

set_option maxHeartbeats 1000000 in
theorem narrow_ok (xs : List Int) (v : Value) (w : World) (hv : SlAt 1 8 RInt 0 w v xs) (hr : ∀ x, x ∈ xs → valB x = true) (hn : xs.length ≤ 1000000) :
    Calls Tryz.prog 97 #[v] w fun e w' => ∃ g, e = .returned (.slice (some ⟨g, 0, none⟩) xs.length xs.length) ∧ OwnV el32 w' w.heap.size (.slice (some ⟨g, 0, none⟩) xs.length xs.length) xs ∧ Below w.heap.size w w' := by
  obtain ⟨a, cap, rfl, _, hnl, hx⟩ := hv
  have HX := hide hx
  have HR := hide hr
  have hmk : (Instr.makeSlice 100 (.int .i64 (xs.length : Int)) (.int .i64 (xs.length : Int))).run Tryz.prog w = .ok (.slice (some ⟨w.heap.size, 0, none⟩) xs.length xs.length) (w.alloc (.cells (madeCells #[.int .i32 0] xs.length) 21)) := by
    have h9 := make_rows (P := Tryz.prog) 100 21 (.int .i32 0) 1 4 Tryz.underlying100 (by kernel_rfl) xs.length (by omega) (by omega) w
    rw [Nat.mul_one] at h9
    exact h9
  have HB0 : Hid (Below w.heap.size w (w.alloc (.cells (madeCells #[.int .i32 0] xs.length) 21))) := (Below.refl _ _).alloc (Nat.le_refl _) _
  have HK0 : Hid (BlkAt (w.alloc (.cells (madeCells #[.int .i32 0] xs.length) 21)) w.heap.size 21 (madeCells #[.int .i32 0] xs.length)) := blk_box w _ _
  clear hx hr hnl
  go_enter Tryz.func97, Tryz.ntmps97
  go_wp2
  generalize w.alloc (.cells (madeCells #[.int .i32 0] xs.length) 21) = w0 at *
  go_loopg [11] xs.length (fun g iv wr => ∃ (i : Nat) (cs : Array Value), i ≤ xs.length ∧ g = xs.length - i ∧ iv = .int .i64 i ∧ fillOK xs i cs ∧ BlkAt wr w.heap.size 21 cs ∧ Below w.heap.size w wr)
  case atStart => exact ⟨0, _, Nat.zero_le _, by omega, rfl, ⟨by rw [size_madeCells], fun j _ hj => absurd hj (Nat.not_lt_zero _)⟩, unhide HK0, unhide HB0⟩
  case round =>
    clear HB0 HK0 hmk
    obtain ⟨i, cs, hi, hg, rfl, hf, hk, hbl⟩ := hrel
    rename World => wr
    have HG := hide hg
    have HF := hide hf
    have HK := hide hk
    have HBL := hide hbl
    clear hg hf
    by_cases hlt : i < xs.length
    · obtain ⟨b, o, c1, rfl, _, hb, _, hc, ⟨rfl, hi64⟩⟩ := unhide HX i hlt
      have c0 := (hbl.cell (p := ⟨b, _, none⟩) hb).trans (hc 0 (by simp))
      simp only [Nat.mul_one, Nat.add_zero, List.getElem_cons_zero] at c0
      have hval := unhide HR _ (List.getElem_mem hlt)
      have hwr := wrap_fit _ hval
      obtain ⟨ru, hru⟩ : ∃ u, cs[i]? = some u := ⟨_, Array.getElem?_eq_getElem (by rw [(unhide HF).1]; exact hlt)⟩
      have rc := hk.cell hru
      have rz := hk.free i
      have hiI : (i : Int) < (xs.length : Int) := by omega
      have HNX := hide ((unhide HF).next hlt)
      clear hc hru hk hbl hval
      generalize xs[i] = x at *
      go_wp2
      go_roundg (xs.length - (i + 1))
      case measure => have := unhide HG; omega
      case rel => exact ⟨i + 1, _, by omega, rfl, by go_num, unhide HNX, (unhide HK).set i _, (unhide HBL).setCell (Nat.le_refl _) _⟩
    · have e : i = xs.length := by omega
      subst e
      go_wp2
      go_ret
      exact ⟨w.heap.size, rfl, (unhide HF).own (unhide HK) (Nat.le_refl _) hn, unhide HBL⟩

end Go.Proofs.YtmglbkndjnflkaaGreatDoor
namespace Go.Proofs.YtmglbkndjnflkaaGreatDoor
open Go.RowKit
set_option linter.unusedSimpArgs false
set_option linter.unusedVariables false

def firstTo (fs : List (List Int)) (mems insts : List Int) (q : Nat) : List Int := mems ++ (insts.take q).flatMap (fun g => fs.getD g.toNat [])
theorem firstTo_zero (fs : List (List Int)) (mems insts : List Int) : firstTo fs mems insts 0 = mems := by simp [firstTo]
theorem firstTo_succ (fs : List (List Int)) (mems insts : List Int) (q : Nat) (hq : q < insts.length) : firstTo fs mems insts (q + 1) = firstTo fs mems insts q ++ fs.getD insts[q].toNat [] := by
  unfold firstTo
  rw [List.take_succ_eq_append_getElem hq, List.flatMap_append, List.append_assoc]
  simp
def insTo (pl : List Nat) (fs : List (List Int)) (mems insts : List Int) (q : Nat) : List (Nat × Nat) := (List.range q).map (fun j => (pl.getD (insts.getD j 0).toNat 0, (firstTo fs mems insts j).length))
theorem insTo_succ (pl : List Nat) (fs : List (List Int)) (mems insts : List Int) (q : Nat) : insTo pl fs mems insts (q + 1) = insTo pl fs mems insts q ++ [(pl.getD (insts.getD q 0).toNat 0, (firstTo fs mems insts q).length)] := by
  unfold insTo
  rw [List.range_succ, List.map_append]
  rfl
theorem insTo_len (pl : List Nat) (fs : List (List Int)) (mems insts : List Int) (q : Nat) : (insTo pl fs mems insts q).length = q := by simp [insTo]
def roomTo (rs insts : List Int) : Nat → Int
  | 0 => 0
  | q + 1 => maxS (roomTo rs insts q) (rs.getD (insts.getD q 0).toNat 0)
def ownOne (fs : List (List Int)) (mems insts : List Int) (q : Nat) : Bool := match insts[q]? with
  | some g => decide (0 ≤ g ∧ g < (fs.length : Int)) && decide ((firstTo fs mems insts (q + 1)).length ≤ 20000)
  | none => false
def ownB (fs : List (List Int)) (k : DClass) : Bool := decide (k.mems.length ≤ 1000 ∧ k.insts.length ≤ 1000) && (k.mems.all valB && (List.range k.insts.length).all (ownOne fs k.mems k.insts))
/-- The plans before. -/
structure EA (W0 : World) (ev : Value) (pl : List Nat) (fs : List (List Int)) (rs : List Int) : Prop where
  sl : SlAt 1 8 RPtr 0 W0 ev pl
  fl : fs.length = pl.length
  rl : rs.length = pl.length
  c3 : ∀ i (h : i < pl.length) (h' : i < fs.length), ∃ a c, W0.cell? ⟨pl[i], 3, none⟩ = some (.slice a fs[i].length c) ∧ SlAt 1 4 RI32 0 W0 (.slice a fs[i].length c) fs[i] ∧ fs[i].length ≤ 20000
  c6 : ∀ i (h : i < pl.length) (h' : i < rs.length), W0.cell? ⟨pl[i], 6, none⟩ = some (.int .i64 rs[i]) ∧ 0 ≤ rs[i] ∧ rs[i] ≤ 1000000
def planCells (cb co mb : Nat) (iv fv bv : Value) (bound room : Int) : Array Value := #[.pointer (some ⟨cb, co, none⟩), .map (some mb), iv, fv, bv, .int .i64 bound, .int .i64 room]
def OwPost (k : DClass) (pb mb cb co : Nat) (pl : List Nat) (fs : List (List Int)) (rs : List Int) (w : World) (R : Bool) (e : Ending) (w' : World) : Prop :=
  e = .returned (.bool R) ∧ But [pb] w w' ∧ (R = true → ∃ iv g c, BlkAt w' pb 103 (planCells cb co mb iv (.slice (some ⟨g, 0, none⟩) (firstTo fs k.mems k.insts k.insts.length).length c) (.slice none 0 0) 0 (((varsOf k).length : Int) + roomTo rs k.insts k.insts.length)) ∧ OwnV elInst w' w.heap.size iv (insTo pl fs k.mems k.insts k.insts.length) ∧ OwnV el32 w' w.heap.size (.slice (some ⟨g, 0, none⟩) (firstTo fs k.mems k.insts k.insts.length).length c) (firstTo fs k.mems k.insts k.insts.length))
theorem room_bd (rs insts : List Int) (h : ∀ x, x ∈ rs → 0 ≤ x ∧ x ≤ 1000000) (q : Nat) : 0 ≤ roomTo rs insts q ∧ roomTo rs insts q ≤ 1000000 := by
  induction q with
  | zero => simp [roomTo]
  | succ q ih => exact maxS_bd _ _ _ ih (getD_bd rs 1000000 (by omega) h _)
theorem ownRows_ne {P : Program} {α β : Type} {E : ElF P α} {F : ElF P β} {w : World} {b1 b2 : Nat} {v u : Value} {xs : List α} {ys : List β} (h1 : OwnV E w b1 v xs) (h2 : OwnV F w b2 u ys) (ht : E.T ≠ F.T) (b : Nat) (e1 : v.ownBlock = some b) : u.ownBlock ≠ some b := fun e2 => by
  rcases h1.2 with ⟨rfl, _⟩ | ⟨g, cap, cur, rfl, _, hg, _⟩
  · cases e1
  · rcases h2.2 with ⟨rfl, _⟩ | ⟨g', cap', cur', rfl, _, hg', _⟩
    · cases e2
    · simp only [Value.ownBlock, Option.some.injEq] at e1 e2
      subst e1
      subst e2
      rw [hg] at hg'
      simp only [Option.some.injEq, Obj.cells.injEq] at hg'
      exact ht hg'.2.1
theorem OwnV.notBlk' {P : Program} {α : Type} {E : ElF P α} {w : World} {b1 g : Nat} {v : Value} {xs : List α} {T : TypeId} {cs : Array Value} (h1 : OwnV E w b1 v xs) (h2 : BlkAt w g T cs) (ht : E.T ≠ T) : v.ownBlock ≠ some g := fun e => by
  rcases h1.2 with ⟨rfl, _⟩ | ⟨g', cap, cur, rfl, _, hg, _⟩
  · cases e
  · simp only [Value.ownBlock, Option.some.injEq] at e
    subst e
    unfold BlkAt at h2
    rw [hg] at h2
    simp only [Option.some.injEq, Obj.cells.injEq] at h2
    exact ht h2.2.1
theorem OwnV.ofBlock {P : Program} {α : Type} {E : ElF P α} {w w' : World} {base : Nat} {v : Value} {xs : List α} (h : OwnV E w base v xs) (hb : ∀ b, v.ownBlock = some b → w'.heap[b]? = w.heap[b]?) : OwnV E w' base v xs := by
  obtain ⟨h1, h2⟩ := h
  refine ⟨h1, ?_⟩
  rcases h2 with h2 | ⟨g, cap, cur, rfl, hg, hh, r⟩
  · exact Or.inl h2
  · exact Or.inr ⟨g, cap, cur, rfl, hg, (hb g rfl).trans hh, r⟩

end Go.Proofs.YtmglbkndjnflkaaGreatDoor
