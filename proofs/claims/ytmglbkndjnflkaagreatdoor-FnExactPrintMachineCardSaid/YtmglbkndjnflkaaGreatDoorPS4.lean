import Derived.Test.YtmglbkndjnflkaaGreatDoorPS1
import Derived.Test.YtmglbkndjnflkaaGreatDoorFill
import Derived.Deep.RegionLaw
import Derived.Lib.AppendStr
import Derived.Laws.BytesString
namespace Go.Proofs.YtmglbkndjnflkaaGreatDoor
open Go.RowKit
set_option linter.unusedSimpArgs false
set_option linter.unusedVariables false

theorem step_append_oneF {P : Program} {α : Type} (E : ElF P α) (w : World) {ops : Array Oper} {o : Oper} {a : Act} {K : Act → World → Prop} {Q : Exit → Act → World → Prop} {Er : Prop} (hgd : o.guard = none) (s x : Operand)
    (ho : o.op = .call { callee := .builtin .append, args := #[s, x], argTypes := #[E.ST, E.ST] })
    (base : Nat) (v : Value) (xs : List α) (hs : a.eval s = v) (hown : OwnV E w base v xs)
    (eb : Nat) (y : α) (hx : a.eval x = .slice (some ⟨eb, 0, none⟩) 1 1) (hy : ∀ j u, (E.f y)[j]? = some u → w.cell? ⟨eb, j, none⟩ = some u) (hb : (xs.length + 1) * E.byt ≤ 140737488355328) (hbase : base ≤ w.heap.size)
    (h : ∀ v' w', OwnV E w' base v' (xs ++ [y]) → w.grownBy w' v.ownBlock → K (a.put o.dst v') w') :
    if Region.wanted o (yielded ops a.tmps) = true then Oper.wp P o a w K Q else Er := by
  have hwant : Region.wanted o (yielded ops a.tmps) = true := by simp [Region.wanted, hgd]
  rw [if_pos hwant]
  obtain ⟨i, hi, hz0, hz1, hz2⟩ := info_parts E.hi
  have hlen : xs.length + 1 ≤ 140737488355328 := Nat.le_trans (Nat.le_mul_of_pos_right _ E.hby) hb
  refine wp_append_own w s x E.ST ho base E.T i _ E.sz E.byt E.hT hi hz0 hz1 hz2 E.hz E.hsz v xs.length (xs.flatMap E.f) hs hown _ 1 1 (E.f y) hx (by rw [E.hf]; omega) (fun j u hu => ?_) (E.h1 y) (by simp [maxLen]; omega) hb hbase ?_
  · rw [Addr.add_lit, Nat.zero_add]
    exact hy j u hu
  · intro v' w' h1 h2 h3
    refine h v' w' ?_ h2
    unfold OwnV
    rw [List.length_append, List.flatMap_append]
    simpa using h1
theorem own_notBlk {P : Program} {α : Type} {E : ElF P α} {w : World} {b1 g : Nat} {v : Value} {xs : List α} {T : TypeId} {cs : Array Value} (h1 : OwnV E w b1 v xs) (h2 : BlkAt w g T cs) (ht : E.T ≠ T) : v.ownBlock ≠ some g := fun e => by
  rcases h1.2 with ⟨rfl, _⟩ | ⟨g', cap, cur, rfl, _, hg, _⟩
  · cases e
  · simp only [Value.ownBlock, Option.some.injEq] at e
    subst e
    unfold BlkAt at h2
    rw [hg] at h2
    simp only [Option.some.injEq, Obj.cells.injEq] at h2
    exact ht h2.2.1
/-- Lines so far, beside a class in its box. -/
structure LI (base c : Nat) (cells : Array Value) (W0 wr : World) (st : Value) (ls : List ByteArray) : Prop where
  own : OwnV elStr wr base st ls
  blk : BlkAt wr c 40 cells
  old : Below base W0 wr
  size : base ≤ wr.heap.size
theorem LI.on {base c : Nat} {cells : Array Value} {W0 wr w1 : World} {st : Value} {ls : List ByteArray} (h : LI base c cells W0 wr st ls) (hb : Below wr.heap.size wr w1) : LI base c cells W0 w1 st ls :=
  ⟨h.own.below hb, h.blk.below hb h.blk.lt, h.old.trans (hb.mono h.size), Nat.le_trans h.size hb.size⟩
theorem LI.app {base c : Nat} {cells : Array Value} {W0 wr w2 : World} {st st2 : Value} {ls : List ByteArray} {l : ByteArray} (h : LI base c cells W0 wr st ls) (ho : OwnV elStr w2 base st2 (ls ++ [l])) (hg : wr.grownBy w2 st.ownBlock) : LI base c cells W0 w2 st2 (ls ++ [l]) :=
  ⟨ho, (hg.block c h.blk.lt (fun e => own_notBlk h.own h.blk (by decide) e.symm)).trans h.blk, h.own.grown h.old hg h.size (Nat.le_refl _), Nat.le_trans h.size hg.size⟩

structure PrOK (ks : List DClass) : Prop where
  cls : ∀ k, k ∈ ks → ClOK ks k
  ln : ∀ k, k ∈ ks → ∀ s, s ∈ k.body → LnOK s
  nm : ∀ k, k ∈ ks → k.name.size ≤ 1048576 ∧ (∀ s, s ∈ k.ins → s.name.size ≤ 1048576) ∧ (∀ s, s ∈ k.outs → s.name.size ≤ 1048576) ∧ ∀ x, x ∈ k.locs → x.size ≤ 1048576
  len : ∀ k, k ∈ ks → k.ins.length ≤ 1048576 ∧ k.outs.length ≤ 1048576 ∧ k.locs.length ≤ 1048576 ∧ k.body.length ≤ 1048576
  all : lsz (machL ks) ≤ 200000000
theorem lit_in : (⟨#[105, 110, 32]⟩ : ByteArray) = Win ++ Lsp := by decide
theorem lit_out : (⟨#[111, 117, 116, 32]⟩ : ByteArray) = Wout ++ Lsp := by decide
theorem lit_cls : (⟨#[99, 108, 97, 115, 115, 32]⟩ : ByteArray) = Wclass ++ Lsp := by decide
theorem lit_loc : (⟨#[108, 111, 99, 32]⟩ : ByteArray) = Wloc ++ Lsp := by decide
theorem lit_mem : (⟨#[109, 101, 109, 32]⟩ : ByteArray) = Wmem ++ Lsp := by decide
theorem lit_use : (⟨#[117, 115, 101, 32]⟩ : ByteArray) = Wuse ++ Lsp := by decide
def prior (ks : List DClass) (i : Nat) : List ByteArray := (ks.take i).flatMap (clsL ks)
theorem prior_succ (ks : List DClass) (i : Nat) (h : i < ks.length) : prior ks (i + 1) = prior ks i ++ clsL ks ks[i] := by
  unfold prior
  rw [List.take_succ_eq_append_getElem h, List.flatMap_append]
  simp
theorem prior_len (ks : List DClass) (i : Nat) : (prior ks i).length ≤ lsz (machL ks) := by
  have h := lsz_len (prior ks i)
  have h2 : lsz (machL ks) = lsz (prior ks i) + lsz ((ks.drop i).flatMap (clsL ks)) := by
    rw [← lsz_app]
    unfold prior machL
    rw [← List.flatMap_append, List.take_append_drop]
  omega
theorem map_take {α : Type} (f : α → ByteArray) (A : List ByteArray) (xs : List α) (q : Nat) (h : q < xs.length) : A ++ (xs.take (q + 1)).map f = (A ++ (xs.take q).map f) ++ [f xs[q]] := by
  rw [List.take_succ_eq_append_getElem h, List.map_append, List.append_assoc]
  rfl
theorem map_len {α : Type} (f : α → ByteArray) (A : List ByteArray) (xs : List α) (q : Nat) (h : q ≤ xs.length) : (A ++ (xs.take q).map f).length = A.length + q := by
  rw [List.length_append, List.length_map, List.length_take]
  omega

theorem own_keep {P : Program} {α : Type} {E : ElF P α} {w w' : World} {base : Nat} {v : Value} {xs : List α} {row : Option Nat} (h : OwnV E w base v xs) (hg : w.grownBy w' row) (hne : ∀ b, v.ownBlock = some b → row ≠ some b) : OwnV E w' base v xs := by
  obtain ⟨h1, h2⟩ := h
  refine ⟨h1, ?_⟩
  rcases h2 with h2 | ⟨g, cap, cur, rfl, hb, hh, r⟩
  · exact Or.inl h2
  · exact Or.inr ⟨g, cap, cur, rfl, hb, (hg.block g (Array.getElem?_eq_some_iff.1 hh).1 (fun e => hne g rfl e.symm)).trans hh, r⟩
theorem rows_ne {P : Program} {α : Type} {E : ElF P α} {w : World} {b1 b2 : Nat} {v u : Value} {xs : List α} {T : TypeId} {sz n : Nat} {ys : List Value} (h1 : OwnV E w b1 v xs) (h2 : w.ownsRow b2 T sz u n ys) (ht : E.T ≠ T) : ∀ b, v.ownBlock = some b → u.ownBlock ≠ some b := fun b e1 e2 => by
  rcases h1.2 with ⟨rfl, _⟩ | ⟨g, cap, cur, rfl, _, hg, _⟩
  · cases e1
  · rcases h2.2 with ⟨rfl, _⟩ | ⟨g', cap', cur', rfl, _, hg', _⟩
    · cases e2
    · simp only [Value.ownBlock, Option.some.injEq] at e1 e2
      subst e1
      subst e2
      rw [hg] at hg'
      simp only [Option.some.injEq, Obj.cells.injEq] at hg'
      exact ht hg'.2.1
theorem lsz_mem (ls : List ByteArray) : ∀ x, x ∈ ls → x.size ≤ lsz ls := by
  intro x hx
  induction ls with
  | nil => cases hx
  | cons y ls ih =>
    rw [lsz_cons]
    rcases List.mem_cons.1 hx with rfl | hx
    · omega
    · have := ih hx
      omega
theorem txL_take (ls : List ByteArray) (q : Nat) (h : q < ls.length) : txL (ls.take (q + 1)) = txL (ls.take q) ++ (ls[q] ++ Wnl) := by
  rw [List.take_succ_eq_append_getElem h, txL_app, txL_one]
theorem txL_tsz (ls : List ByteArray) (q : Nat) (h : q < ls.length) : (txL (ls.take q)).size + ls[q].size + 1 ≤ lsz ls := by
  have h1 : lsz ls = lsz (ls.take (q + 1)) + lsz (ls.drop (q + 1)) := by rw [← lsz_app, List.take_append_drop]
  have h2 := txL_size (ls.take (q + 1))
  rw [txL_take ls q h, ba_size, ba_size] at h2
  have : Wnl.size = 1 := rfl
  omega
theorem info_byte : (Tryz.prog.info? 5).map (fun i => (i.zero, i.size, i.bytes)) = some (some (.int .u8 0), 1, 1) := by kernel_rfl
theorem own_base {w : World} {base n sz : Nat} {T : TypeId} {v : Value} {xs : List Value} (h : w.ownsRow base T sz v n xs) : ∀ k, v.ownBlock = some k → base ≤ k := fun k e => by
  rcases h.2 with ⟨rfl, _⟩ | ⟨g, cap, cur, rfl, hb, _⟩
  · cases e
  · cases e
    exact hb
theorem row_below {w w' : World} {base n sz : Nat} {T : TypeId} {v : Value} {xs : List Value} (h : w.ownsRow base T sz v n xs) (hb : Below w.heap.size w w') : w'.ownsRow base T sz v n xs := by
  refine ⟨h.1, ?_⟩
  rcases h.2 with h2 | ⟨g, cap, cur, rfl, hbb, hh, r⟩
  · exact Or.inl h2
  · exact Or.inr ⟨g, cap, cur, rfl, hbb, (hb.block g (Array.getElem?_eq_some_iff.1 hh).1).trans hh, r⟩
theorem strCells_appP (s t : ByteArray) : Lib.strCells (s ++ t) = Lib.strCells s ++ Lib.strCells t := by
  simp [Lib.strCells, ByteArray.data_append]
theorem push_all (l : List UInt8) (s : ByteArray) : (l.map (fun b => ((b.toNat : Nat) : Int))).foldl (fun r n => r.push (UInt8.ofNat n.toNat)) s = s ++ ⟨l.toArray⟩ := by
  induction l generalizing s with
  | nil =>
    apply ByteArray.ext
    simp [ByteArray.data_append]
  | cons b l ih =>
    rw [List.map_cons, List.foldl_cons, ih]
    apply ByteArray.ext
    simp [ByteArray.data_append]
theorem conv_own (w : World) (base n : Nat) (v : Value) (s : ByteArray) (h : w.ownsRow base 5 1 v n (Lib.strCells s)) : (convert 49 9 v).run Tryz.prog w = .ok (.string s) w := by
  have hl := h.1
  rw [Lib.strCells_length, Nat.mul_one] at hl
  rcases h.2 with ⟨rfl, hn⟩ | ⟨g, cap, cur, rfl, _, hg, _⟩
  · rw [run_convert_bytes_string _ _ _ _ _ _ _ Tryz.underlying49 Tryz.underlying5 Tryz.underlying9]
    have hs : s = ByteArray.empty := by
      apply ByteArray.ext
      apply Array.eq_empty_of_size_eq_zero
      show s.size = 0
      omega
    subst hs
    rfl
  · rw [run_convert_bytes_string _ _ _ _ _ _ _ Tryz.underlying49 Tryz.underlying5 Tryz.underlying9]
    have hcs : Lib.strCells s = (s.data.toList.map (fun b => ((b.toNat : Nat) : Int))).map (Value.int .u8) := by
      unfold Lib.strCells
      rw [List.map_map]
      rfl
    have hld := run_loadCells_list (P := Tryz.prog) (w := w) ⟨g, 0, none⟩ (Lib.strCells s) (fun j u hu => h.cells (g := g) rfl j u hu)
    rw [Lib.strCells_length, hl, hcs] at hld
    rw [run_bytesToString w ⟨g, 0, none⟩ n cap _ hld, push_all]
    congr 2

set_option maxRecDepth 20000 in
set_option maxHeartbeats 16000000 in
theorem specPrint_of (ks : List DClass) (v : Value) (w : World) (hv : SlAt 7 160 RClass 0 w v ks) (mb : Bool) (hmk : ∀ v w, SlAt 7 160 RClass 0 w v ks → Calls Tryz.prog 10 #[.agg #[v]] w (Ans (.bool mb) w)) (hp : mb = true → ks ≠ [] ∧ PrOK ks) :
    Calls Tryz.prog 5 #[.agg #[v]] w (Ans (.string (if mb = true then txL (machL ks) else ByteArray.empty)) w) := by
  obtain ⟨a0, c0, rfl⟩ := hv.shape
  have hA0 : Below w.heap.size w (w.alloc (.cells #[.slice a0 ks.length c0] 29)) := (Below.refl _ _).alloc (Nat.le_refl _) _
  have HC := hide (hmk _ _ (hv.stays RClass_kept hA0))
  have HA0 := hide hA0
  clear hmk hA0
  cases mb
  · rw [if_neg (by simp)]
    go_enter Tryz.func5, Tryz.ntmps5
    go_wp2_with fail
    refine (unhide HC).mono ?_
    rintro e w1 ⟨rfl, hb1⟩
    have HB := hide ((unhide HA0).trans (hb1.mono (unhide HA0).size))
    clear hb1
    go_wp2
    go_ret
    exact ⟨rfl, unhide HB⟩
  rw [if_pos rfl]
  obtain ⟨hne, hpr⟩ := hp rfl
  have HPR := hide hpr
  have hlm : ks.length ≤ 140737488355328 := by
    obtain ⟨_, _, _, _, h, _⟩ := hv
    exact h
  have HV := hide hv
  obtain ⟨_, _, hve, _, _, hx⟩ := hv
  simp only [Value.slice.injEq] at hve
  obtain ⟨rfl, _, rfl⟩ := hve
  obtain ⟨b0, o0, _, rfl, hjunk⟩ := hx 0 (List.length_pos_iff.2 hne)
  clear hjunk
  have HX := hide hx
  have HALL := hide hpr.all
  have HPL := hide (prior_len ks)
  have HOUT : Hid (∀ w1, Below (w.heap.size + 1) (w.alloc (.cells #[.slice (some ⟨b0, o0, none⟩) ks.length c0] 29)) w1 → Below w.heap.size w w1) := fun w1 h => (unhide HA0).trans (h.mono (Nat.le_succ _))
  generalize hTX : txL (machL ks) = TX at *
  have HTX0 := hide hTX
  clear hp hpr hne hx hTX
  go_enter Tryz.func5, Tryz.ntmps5
  go_wp2_with fail
  refine (unhide HC).mono ?_
  rintro e w1 ⟨rfl, hb1⟩
  have hbx := box_of hb1
  have HB1 := hide hbx
  have hz1 : w.heap.size + 1 ≤ w1.heap.size := by have := hbx.size; simpa using this
  have HB2 := hide (hbx.alloc hz1 (.cells #[] 9))
  have HO2 := hide (OwnV.start (E := elStr) w1 (w.heap.size + 1) hz1)
  have k1 : w1.cell? ⟨w.heap.size, 0, none⟩ = some (.slice (some ⟨b0, o0, none⟩) ks.length c0) := (box_cell (B := 0) hbx 0).trans rfl
  have hz1' : w.heap.size < w1.heap.size := hz1
  clear hb1 hbx
  go_wp2
  go_loopg [3, 28] ks.length (fun gh st ix wr => ∃ (i : Nat), i ≤ ks.length ∧ gh = ks.length - i ∧ ix = .int .i64 i ∧ Hid (OwnV elStr wr (w.heap.size + 1) st (prior ks i)) ∧ Hid (Below (w.heap.size + 1) (w.alloc (.cells #[.slice (some ⟨b0, o0, none⟩) ks.length c0] 29)) wr))
  case atStart => exact ⟨0, Nat.zero_le _, by omega, rfl, HO2, HB2⟩
  case round =>
    obtain ⟨i, hi, hg, rfl, HOW, HBW⟩ := hrel
    have HG0 := hide hg
    clear hg k1
    have hws : w.heap.size + 1 ≤ wr.heap.size := by have := (unhide HBW).size; simpa using this
    by_cases hlt0 : i < ks.length
    · obtain ⟨b, o, cs, hbo, _, hb, hcs, hc, hR⟩ := unhide HX i hlt0
      simp only [Option.some.injEq, Addr.mk.injEq] at hbo
      obtain ⟨rfl, rfl, _⟩ := hbo
      have hbw := unhide HOUT _ (unhide HBW)
      have hc : ∀ j (hj : j < cs.length), wr.cell? ⟨b0, o0 + i * 7 + j, none⟩ = some cs[j] := fun j hj => by rw [hbw.cell (p := ⟨b0, _, none⟩) hb]; exact hc j hj
      have hkm := List.getElem_mem hlt0
      have hcl := (unhide HPR).cls _ hkm
      have hln := (unhide HPR).ln _ hkm
      have hnm := (unhide HPR).nm _ hkm
      have hlen := (unhide HPR).len _ hkm
      have HNX := hide (prior_succ ks i hlt0)
      have hpl := unhide HPL i
      have hall := unhide HALL
      have hz0 : clsL ks ks[i] = clsL ks ks[i] := rfl
      obtain ⟨kd, hkd⟩ : ∃ kd, kd = ks[i] := ⟨_, rfl⟩
      rw [← hkd] at hR hcl hln hnm hlen HNX
      clear hkm hkd hz0
      obtain ⟨nm, ins, outs, locs, mems, insts, body⟩ := kd
      obtain ⟨f1, f2, f3, f4, f5, f6, rfl, hnl, q1, q2, q3, q4, q5, q6⟩ := hR
      simp only at hnl q1 q2 q3 q4 q5 q6
      obtain ⟨b1, c1, rfl⟩ := q1.shape
      obtain ⟨b2, c2, rfl⟩ := q2.shape
      obtain ⟨b3, c3, rfl⟩ := q3.shape
      obtain ⟨b4, c4, rfl⟩ := q4.shape
      obtain ⟨b5, c5, rfl⟩ := q5.shape
      obtain ⟨b6, c6, rfl⟩ := q6.shape
      have HS1 := hide q1
      have HS2 := hide q2
      have HS3 := hide q3
      have HS4 := hide q4
      have HS5 := hide q5
      have HS6 := hide q6
      have HNM1 := hide hnm.2.1
      have HNM2 := hide hnm.2.2.1
      have HNM3 := hide hnm.2.2.2
      have HCL := hide hcl
      have HLNS := hide hln
      obtain ⟨cb, hcb⟩ : ∃ cb, cb = wr.heap.size := ⟨_, rfl⟩
      have hnz := hnm.1
      have hfew := hcl.few
      simp only at hnz hlen hfew
      have y0 := hc 0 (by simp)
      have y1 := hc 1 (by simp)
      have y2 := hc 2 (by simp)
      have y3 := hc 3 (by simp)
      have y4 := hc 4 (by simp)
      have y5 := hc 5 (by simp)
      have y6 := hc 6 (by simp)
      simp only [Nat.mul_one, Nat.add_zero, List.getElem_cons_zero, List.getElem_cons_succ] at y0 y1 y2 y3 y4 y5 y6
      have hltI0 : (i : Int) < (ks.length : Int) := by omega
      clear q1 q2 q3 q4 q5 q6 hc hcs hln hcl hnl hbw
      generalize prior ks i = A0 at *
      have HL0 : Hid (LI (w.heap.size + 1) cb #[.string nm, .slice b1 ins.length c1, .slice b2 outs.length c2, .slice b3 locs.length c3, .slice b4 mems.length c4, .slice b5 insts.length c5, .slice b6 body.length c6] (w.alloc (.cells #[.slice (some ⟨b0, o0, none⟩) ks.length c0] 29)) ((wr.alloc (.cells #[.string nm, .slice b1 ins.length c1, .slice b2 outs.length c2, .slice b3 locs.length c3, .slice b4 mems.length c4, .slice b5 insts.length c5, .slice b6 body.length c6] 40)).alloc (.cells #[.string (⟨#[99, 108, 97, 115, 115, 32]⟩ ++ nm)] 9)) u3 (A0)) := by
        have hb8 := ((Below.refl wr.heap.size wr).alloc (Nat.le_refl _) (.cells #[.string nm, .slice b1 ins.length c1, .slice b2 outs.length c2, .slice b3 locs.length c3, .slice b4 mems.length c4, .slice b5 insts.length c5, .slice b6 body.length c6] 40)).alloc (by simp) (.cells #[.string (⟨#[99, 108, 97, 115, 115, 32]⟩ ++ nm)] 9)
        refine hide ⟨(unhide HOW).below hb8, ?_, (unhide HBW).trans (hb8.mono hws), Nat.le_trans hws hb8.size⟩
        rw [hcb]
        exact (blk_box wr #[.string nm, .slice b1 ins.length c1, .slice b2 outs.length c2, .slice b3 locs.length c3, .slice b4 mems.length c4, .slice b5 insts.length c5, .slice b6 body.length c6] 40).below ((Below.refl (wr.heap.size + 1) _).alloc (by simp) _) (Nat.lt_succ_self _)
      have HLN : Hid (A0.length ≤ 300000000) := by
        refine hide ?_
        omega
      go_wp2_with (at_builtin; go_must (refine wpList_append_oneF elStr _ rfl _ _ rfl (w.heap.size + 1) _ _ rfl (unhide HL0).own (wr.heap.size + 1) (⟨#[99, 108, 97, 115, 115, 32]⟩ ++ nm) rfl (fun j u hu => by rw [World.cell?_alloc_at _ _ _ _ (by simp)]; simpa [elStr] using hu) (by have h9 := unhide HLN; show (_ + 1) * 16 ≤ _; omega) (unhide HL0).size ?_))
      intro v2 w2 hown2 hgr2
      have HLa := hide ((unhide HL0).app hown2 hgr2)
      clear hown2 hgr2 y0 y1 y2 y3 y4 y5 y6
      obtain ⟨A1, hA1⟩ : ∃ A1, A1 = A0 ++ [⟨#[99, 108, 97, 115, 115, 32]⟩ ++ nm] := ⟨_, rfl⟩
      have HN1 : Hid (A1.length + ins.length ≤ 300000000) := by
        refine hide ?_
        rw [hA1, List.length_append, List.length_singleton]
        omega
      rw [← hA1] at HLa
      have HA1 := hide hA1
      have HLn := HLa
      have k1 : w2.cell? ⟨cb, 1, none⟩ = some (.slice b1 ins.length c1) := (unhide HLn).blk.cell (v := .slice b1 ins.length c1) rfl
      have hzc : cb < w2.heap.size := (unhide HLn).blk.lt
      rw [← hcb]
      have HNALL : Hid (A1.length + ins.length + outs.length + locs.length + mems.length + insts.length + body.length ≤ 300000000) := by
        refine hide ?_
        rw [hA1, List.length_append, List.length_singleton]
        omega
      clear hA1 HLN hcb HOW HBW hpl hall hnm
      go_wp2
      go_loopg [3, 41] ins.length (fun gh st ix wr => ∃ (q : Nat), q ≤ ins.length ∧ gh = ins.length - q ∧ ix = .int .i64 q ∧ Hid (LI (w.heap.size + 1) cb #[.string nm, .slice b1 ins.length c1, .slice b2 outs.length c2, .slice b3 locs.length c3, .slice b4 mems.length c4, .slice b5 insts.length c5, .slice b6 body.length c6] (w.alloc (.cells #[.slice (some ⟨b0, o0, none⟩) ks.length c0] 29)) wr st (A1 ++ (ins.take q).map (fun s : DSlot => lnP [Win, s.name, tyT s.type]))))
      case atStart => exact ⟨0, Nat.zero_le _, by omega, rfl, (by rw [List.take_zero, List.map_nil, List.append_nil]; exact HLn)⟩
      case round =>
        obtain ⟨q, hq, hg, rfl, HL⟩ := hrel
        have HG := hide hg
        clear hg
        by_cases hlt : q < ins.length
        · have hbw := unhide HOUT _ (unhide HL).old
          obtain ⟨_, _, hve, _, _, hex⟩ := unhide HS1
          simp only [Value.slice.injEq] at hve
          obtain ⟨rfl, _, rfl⟩ := hve
          obtain ⟨b, o, cs, rfl, _, hb, hcs, hc, hR⟩ := hex q hlt
          have hc : ∀ j (hj : j < cs.length), wr.cell? ⟨b, o + q * 2 + j, none⟩ = some cs[j] := fun j hj => by rw [hbw.cell (p := ⟨b, _, none⟩) hb]; exact hc j hj
          obtain ⟨rfl, hsn, hty⟩ := hR
          have z0 := hc 0 (by simp)
          have z1 := hc 1 (by simp)
          simp only [Nat.mul_one, Nat.add_zero, List.getElem_cons_zero, List.getElem_cons_succ] at z0 z1
          have hltI : (q : Int) < (ins.length : Int) := by omega
          have HT := hide (map_take (fun s : DSlot => lnP [Win, s.name, tyT s.type]) (A1) ins q hlt)
          have HLN : Hid ((A1 ++ (ins.take q).map (fun s : DSlot => lnP [Win, s.name, tyT s.type])).length ≤ 300000000) := by
            refine hide ?_
            rw [map_len _ _ _ _ (by omega)]
            have := unhide HN1
            omega
          have hmem := List.getElem_mem hlt
          clear hc hcs hex
          generalize A1 ++ (ins.take q).map (fun s : DSlot => lnP [Win, s.name, tyT s.type]) = pre at HL HT HLN
          have HNS := hide (unhide HNM1 _ hmem)
          have HTX : Hid (lnP [Win, ins[q].name, tyT ins[q].type] = ⟨#[105, 110, 32]⟩ ++ ins[q].name ++ ⟨#[32]⟩ ++ tyT ins[q].type) := by
            refine hide ?_
            rw [line3, lit_in]
            simp only [ba_assoc]
            rfl
          have hzt := tyT_sz ins[q].type
          have HTY := hide (l3Type_ok ins[q].type)
          rw [unhide HTX] at HT
          generalize tyT ins[q].type = tx at *
          generalize ins[q] = sl at *
          obtain ⟨sn, sty⟩ := sl
          simp only at *
          have hsn2 := unhide HNS
          have q1 : ¬ (9223372036854775807 < 3 + sn.size) := by omega
          have q2 : ¬ (9223372036854775807 < 3 + sn.size + 1) := by omega
          have q3 : ¬ (9223372036854775807 < 3 + sn.size + 1 + tx.size) := by omega
          have hbA : Below wr.heap.size wr ((wr.alloc (.cells #[.string sn, .int .i64 sty] 42)).alloc (.cells #[.string (⟨#[105, 110, 32]⟩ ++ sn ++ ⟨#[32]⟩ ++ tx)] 9)).drew := (((Below.refl wr.heap.size wr).alloc (Nat.le_refl _) (.cells #[.string sn, .int .i64 sty] 42)).alloc (by simp) (.cells #[.string (⟨#[105, 110, 32]⟩ ++ sn ++ ⟨#[32]⟩ ++ tx)] 9)).drew
          have HL1 := hide ((unhide HL).on hbA)
          have HSB : Hid (BlkAt ((wr.alloc (.cells #[.string sn, .int .i64 sty] 42)).alloc (.cells #[.string (⟨#[105, 110, 32]⟩ ++ sn ++ ⟨#[32]⟩ ++ tx)] 9)).drew wr.heap.size 42 #[.string sn, .int .i64 sty]) := (blk_box wr #[.string sn, .int .i64 sty] 42).below (((Below.refl (wr.heap.size + 1) _).alloc (by simp) _).drew) (Nat.lt_succ_self _)
          clear hbA
          have k0 : (wr.alloc (.cells #[.string sn, .int .i64 sty] 42)).drew.cell? ⟨wr.heap.size, 0, none⟩ = some (.string sn) := by
            show (wr.alloc (.cells #[.string sn, .int .i64 sty] 42)).cell? _ = _
            rw [World.cell?_alloc_at _ _ _ _ rfl]
            rfl
          have k1 : (wr.alloc (.cells #[.string sn, .int .i64 sty] 42)).drew.cell? ⟨wr.heap.size, 1, none⟩ = some (.int .i64 sty) := by
            show (wr.alloc (.cells #[.string sn, .int .i64 sty] 42)).cell? _ = _
            rw [World.cell?_alloc_at _ _ _ _ rfl]
            rfl
          clear hmem hsn hty
          go_wp2_with fail
          go_region_held3 (fun w' => w'.cell? ⟨wr.heap.size, 0, none⟩ = some (.string sn) ∧ w'.cell? ⟨wr.heap.size, 1, none⟩ = some (.int .i64 sty)) (go_keep) (first | (go_at_call 11; refine (unhide HTY _).mono ?_; rintro e wj ⟨rfl, rfl⟩) | (refine step_append_oneF elStr _ rfl _ _ rfl (w.heap.size + 1) _ _ rfl (unhide HL1).own (wr.heap.size + 1) (⟨#[105, 110, 32]⟩ ++ sn ++ ⟨#[32]⟩ ++ tx) rfl (fun j u hu => by (show (World.alloc _ _).cell? _ = _); rw [World.cell?_alloc_at _ _ _ _ (by simp)]; simpa [elStr] using hu) (by have h9 := unhide HLN; show (_ + 1) * 16 ≤ _; omega) (unhide HL1).size ?_; intro v2 w2 hown2 hgr2; have HL2 := hide ((unhide HL1).app hown2 hgr2); have HSB2 := hide ((hgr2.block wr.heap.size (unhide HSB).lt (fun e => own_notBlk (unhide HL1).own (unhide HSB) (by decide) e.symm)).trans (unhide HSB)); have k0 : w2.cell? ⟨wr.heap.size, 0, none⟩ = some (.string sn) := BlkAt.cell (unhide HSB2) (v := .string sn) rfl; have k1 : w2.cell? ⟨wr.heap.size, 1, none⟩ = some (.int .i64 sty) := BlkAt.cell (unhide HSB2) (v := .int .i64 sty) rfl; clear hown2 hgr2))
          go_wp2
          go_roundg (ins.length - (q + 1))
          case measure => have := unhide HG; omega
          case rel => exact ⟨q + 1, by omega, rfl, by go_num, (by rw [unhide HT]; exact HL2)⟩
        · have e : q = ins.length := by omega
          have HLn : Hid (LI (w.heap.size + 1) cb #[.string nm, .slice b1 ins.length c1, .slice b2 outs.length c2, .slice b3 locs.length c3, .slice b4 mems.length c4, .slice b5 insts.length c5, .slice b6 body.length c6] (w.alloc (.cells #[.slice (some ⟨b0, o0, none⟩) ks.length c0] 29)) wr u3 (A1 ++ ins.map (fun s : DSlot => lnP [Win, s.name, tyT s.type]))) := by
            have h8 := unhide HL
            rw [e, List.take_length] at h8
            exact h8
          clear e HL HG
          obtain ⟨A2, hA2⟩ : ∃ A, A = A1 ++ ins.map (fun s : DSlot => lnP [Win, s.name, tyT s.type]) := ⟨_, rfl⟩
          rw [← hA2] at HLn
          have HA2 := hide hA2
          have HQ2 : Hid (A2.length = A1.length + (ins.length)) := by
            refine hide ?_
            rw [hA2, List.length_append, List.length_map]
            try omega
          clear hA2
          have HN2 : Hid (A2.length + outs.length ≤ 300000000) := by
            refine hide ?_
            have h1 := unhide HNALL
            have h2 := unhide HQ2
            omega
          have k2 : wr.cell? ⟨cb, 2, none⟩ = some (.slice b2 outs.length c2) := (unhide HLn).blk.cell (v := .slice b2 outs.length c2) rfl
          have hzc2 : cb < wr.heap.size := (unhide HLn).blk.lt
          go_wp2
          go_loopg [3, 60] outs.length (fun gh st ix wr => ∃ (q : Nat), q ≤ outs.length ∧ gh = outs.length - q ∧ ix = .int .i64 q ∧ Hid (LI (w.heap.size + 1) cb #[.string nm, .slice b1 ins.length c1, .slice b2 outs.length c2, .slice b3 locs.length c3, .slice b4 mems.length c4, .slice b5 insts.length c5, .slice b6 body.length c6] (w.alloc (.cells #[.slice (some ⟨b0, o0, none⟩) ks.length c0] 29)) wr st (A2 ++ (outs.take q).map (fun s : DSlot => lnP [Wout, s.name, tyT s.type]))))
          case atStart => exact ⟨0, Nat.zero_le _, by omega, rfl, (by rw [List.take_zero, List.map_nil, List.append_nil]; exact HLn)⟩
          case round =>
            obtain ⟨q, hq, hg, rfl, HL⟩ := hrel
            have HG := hide hg
            clear hg
            by_cases hlt : q < outs.length
            · have hbw := unhide HOUT _ (unhide HL).old
              obtain ⟨_, _, hve, _, _, hex⟩ := unhide HS2
              simp only [Value.slice.injEq] at hve
              obtain ⟨rfl, _, rfl⟩ := hve
              obtain ⟨b, o, cs, rfl, _, hb, hcs, hc, hR⟩ := hex q hlt
              have hc : ∀ j (hj : j < cs.length), wr.cell? ⟨b, o + q * 2 + j, none⟩ = some cs[j] := fun j hj => by rw [hbw.cell (p := ⟨b, _, none⟩) hb]; exact hc j hj
              obtain ⟨rfl, hsn, hty⟩ := hR
              have z0 := hc 0 (by simp)
              have z1 := hc 1 (by simp)
              simp only [Nat.mul_one, Nat.add_zero, List.getElem_cons_zero, List.getElem_cons_succ] at z0 z1
              have hltI : (q : Int) < (outs.length : Int) := by omega
              have HT := hide (map_take (fun s : DSlot => lnP [Wout, s.name, tyT s.type]) (A2) outs q hlt)
              have HLN : Hid ((A2 ++ (outs.take q).map (fun s : DSlot => lnP [Wout, s.name, tyT s.type])).length ≤ 300000000) := by
                refine hide ?_
                rw [map_len _ _ _ _ (by omega)]
                have := unhide HN2
                omega
              have hmem := List.getElem_mem hlt
              clear hc hcs hex
              generalize A2 ++ (outs.take q).map (fun s : DSlot => lnP [Wout, s.name, tyT s.type]) = pre at HL HT HLN
              have HNS := hide (unhide HNM2 _ hmem)
              have HTX : Hid (lnP [Wout, outs[q].name, tyT outs[q].type] = ⟨#[111, 117, 116, 32]⟩ ++ outs[q].name ++ ⟨#[32]⟩ ++ tyT outs[q].type) := by
                refine hide ?_
                rw [line3, lit_out]
                simp only [ba_assoc]
                rfl
              have hzt := tyT_sz outs[q].type
              have HTY := hide (l3Type_ok outs[q].type)
              rw [unhide HTX] at HT
              generalize tyT outs[q].type = tx at *
              generalize outs[q] = sl at *
              obtain ⟨sn, sty⟩ := sl
              simp only at *
              have hsn2 := unhide HNS
              have q1 : ¬ (9223372036854775807 < 4 + sn.size) := by omega
              have q2 : ¬ (9223372036854775807 < 4 + sn.size + 1) := by omega
              have q3 : ¬ (9223372036854775807 < 4 + sn.size + 1 + tx.size) := by omega
              have hbA : Below wr.heap.size wr ((wr.alloc (.cells #[.string sn, .int .i64 sty] 42)).alloc (.cells #[.string (⟨#[111, 117, 116, 32]⟩ ++ sn ++ ⟨#[32]⟩ ++ tx)] 9)).drew := (((Below.refl wr.heap.size wr).alloc (Nat.le_refl _) (.cells #[.string sn, .int .i64 sty] 42)).alloc (by simp) (.cells #[.string (⟨#[111, 117, 116, 32]⟩ ++ sn ++ ⟨#[32]⟩ ++ tx)] 9)).drew
              have HL1 := hide ((unhide HL).on hbA)
              have HSB : Hid (BlkAt ((wr.alloc (.cells #[.string sn, .int .i64 sty] 42)).alloc (.cells #[.string (⟨#[111, 117, 116, 32]⟩ ++ sn ++ ⟨#[32]⟩ ++ tx)] 9)).drew wr.heap.size 42 #[.string sn, .int .i64 sty]) := (blk_box wr #[.string sn, .int .i64 sty] 42).below (((Below.refl (wr.heap.size + 1) _).alloc (by simp) _).drew) (Nat.lt_succ_self _)
              clear hbA
              have k0 : (wr.alloc (.cells #[.string sn, .int .i64 sty] 42)).drew.cell? ⟨wr.heap.size, 0, none⟩ = some (.string sn) := by
                show (wr.alloc (.cells #[.string sn, .int .i64 sty] 42)).cell? _ = _
                rw [World.cell?_alloc_at _ _ _ _ rfl]
                rfl
              have k1 : (wr.alloc (.cells #[.string sn, .int .i64 sty] 42)).drew.cell? ⟨wr.heap.size, 1, none⟩ = some (.int .i64 sty) := by
                show (wr.alloc (.cells #[.string sn, .int .i64 sty] 42)).cell? _ = _
                rw [World.cell?_alloc_at _ _ _ _ rfl]
                rfl
              clear hmem hsn hty
              go_wp2_with fail
              go_region_held3 (fun w' => w'.cell? ⟨wr.heap.size, 0, none⟩ = some (.string sn) ∧ w'.cell? ⟨wr.heap.size, 1, none⟩ = some (.int .i64 sty)) (go_keep) (first | (go_at_call 11; refine (unhide HTY _).mono ?_; rintro e wj ⟨rfl, rfl⟩) | (refine step_append_oneF elStr _ rfl _ _ rfl (w.heap.size + 1) _ _ rfl (unhide HL1).own (wr.heap.size + 1) (⟨#[111, 117, 116, 32]⟩ ++ sn ++ ⟨#[32]⟩ ++ tx) rfl (fun j u hu => by (show (World.alloc _ _).cell? _ = _); rw [World.cell?_alloc_at _ _ _ _ (by simp)]; simpa [elStr] using hu) (by have h9 := unhide HLN; show (_ + 1) * 16 ≤ _; omega) (unhide HL1).size ?_; intro v2 w2 hown2 hgr2; have HL2 := hide ((unhide HL1).app hown2 hgr2); have HSB2 := hide ((hgr2.block wr.heap.size (unhide HSB).lt (fun e => own_notBlk (unhide HL1).own (unhide HSB) (by decide) e.symm)).trans (unhide HSB)); have k0 : w2.cell? ⟨wr.heap.size, 0, none⟩ = some (.string sn) := BlkAt.cell (unhide HSB2) (v := .string sn) rfl; have k1 : w2.cell? ⟨wr.heap.size, 1, none⟩ = some (.int .i64 sty) := BlkAt.cell (unhide HSB2) (v := .int .i64 sty) rfl; clear hown2 hgr2))
              go_wp2
              go_roundg (outs.length - (q + 1))
              case measure => have := unhide HG; omega
              case rel => exact ⟨q + 1, by omega, rfl, by go_num, (by rw [unhide HT]; exact HL2)⟩
            · have e : q = outs.length := by omega
              have HLn : Hid (LI (w.heap.size + 1) cb #[.string nm, .slice b1 ins.length c1, .slice b2 outs.length c2, .slice b3 locs.length c3, .slice b4 mems.length c4, .slice b5 insts.length c5, .slice b6 body.length c6] (w.alloc (.cells #[.slice (some ⟨b0, o0, none⟩) ks.length c0] 29)) wr u3 (A2 ++ outs.map (fun s : DSlot => lnP [Wout, s.name, tyT s.type]))) := by
                have h8 := unhide HL
                rw [e, List.take_length] at h8
                exact h8
              clear e HL HG
              obtain ⟨A3, hA3⟩ : ∃ A, A = A2 ++ outs.map (fun s : DSlot => lnP [Wout, s.name, tyT s.type]) := ⟨_, rfl⟩
              rw [← hA3] at HLn
              have HA3 := hide hA3
              have HQ3 : Hid (A3.length = A1.length + (ins.length + outs.length)) := by
                refine hide ?_
                rw [hA3, List.length_append, List.length_map, unhide HQ2]
                try omega
              clear hA3
              have HN3 : Hid (A3.length + locs.length ≤ 300000000) := by
                refine hide ?_
                have h1 := unhide HNALL
                have h2 := unhide HQ3
                omega
              have k3 : wr.cell? ⟨cb, 3, none⟩ = some (.slice b3 locs.length c3) := (unhide HLn).blk.cell (v := .slice b3 locs.length c3) rfl
              have hzc3 : cb < wr.heap.size := (unhide HLn).blk.lt
              go_wp2
              go_loopg [3, 79] locs.length (fun gh st ix wr => ∃ (q : Nat), q ≤ locs.length ∧ gh = locs.length - q ∧ ix = .int .i64 q ∧ Hid (LI (w.heap.size + 1) cb #[.string nm, .slice b1 ins.length c1, .slice b2 outs.length c2, .slice b3 locs.length c3, .slice b4 mems.length c4, .slice b5 insts.length c5, .slice b6 body.length c6] (w.alloc (.cells #[.slice (some ⟨b0, o0, none⟩) ks.length c0] 29)) wr st (A3 ++ (locs.take q).map (fun x : ByteArray => lnP [Wloc, x]))))
              case atStart => exact ⟨0, Nat.zero_le _, by omega, rfl, (by rw [List.take_zero, List.map_nil, List.append_nil]; exact HLn)⟩
              case round =>
                obtain ⟨q, hq, hg, rfl, HL⟩ := hrel
                have HG := hide hg
                clear hg
                by_cases hlt : q < locs.length
                · have hbw := unhide HOUT _ (unhide HL).old
                  obtain ⟨_, _, hve, _, _, hex⟩ := unhide HS3
                  simp only [Value.slice.injEq] at hve
                  obtain ⟨rfl, _, rfl⟩ := hve
                  obtain ⟨b, o, cs, rfl, _, hb, hcs, hc, hR⟩ := hex q hlt
                  have hc : ∀ j (hj : j < cs.length), wr.cell? ⟨b, o + q * 1 + j, none⟩ = some cs[j] := fun j hj => by rw [hbw.cell (p := ⟨b, _, none⟩) hb]; exact hc j hj
                  obtain ⟨rfl, hsn⟩ := hR
                  have z0 := hc 0 (by simp)
                  simp only [Nat.mul_one, Nat.add_zero, List.getElem_cons_zero, List.getElem_cons_succ] at z0
                  have hltI : (q : Int) < (locs.length : Int) := by omega
                  have HT := hide (map_take (fun x : ByteArray => lnP [Wloc, x]) (A3) locs q hlt)
                  have HLN : Hid ((A3 ++ (locs.take q).map (fun x : ByteArray => lnP [Wloc, x])).length ≤ 300000000) := by
                    refine hide ?_
                    rw [map_len _ _ _ _ (by omega)]
                    have := unhide HN3
                    omega
                  have hmem := List.getElem_mem hlt
                  clear hc hcs hex
                  generalize A3 ++ (locs.take q).map (fun x : ByteArray => lnP [Wloc, x]) = pre at HL HT HLN
                  have HNS := hide (unhide HNM3 _ hmem)
                  have HTX : Hid (lnP [Wloc, locs[q]] = ⟨#[108, 111, 99, 32]⟩ ++ locs[q]) := by
                    refine hide ?_
                    rw [line2, lit_loc]
                    simp only [ba_assoc]
                  rw [unhide HTX] at HT
                  generalize locs[q] = x at *
                  have hsn2 := unhide HNS
                  have HL1 := hide ((unhide HL).on ((Below.refl wr.heap.size wr).alloc (Nat.le_refl _) (.cells #[.string (⟨#[108, 111, 99, 32]⟩ ++ x)] 9)))
                  clear hmem hsn
                  go_wp2_with (at_builtin; go_must (refine wpList_append_oneF elStr _ rfl _ _ rfl (w.heap.size + 1) _ _ rfl (unhide HL1).own wr.heap.size (⟨#[108, 111, 99, 32]⟩ ++ x) rfl (fun j u hu => by rw [World.cell?_alloc_at _ _ _ _ rfl]; simpa [elStr] using hu) (by have h9 := unhide HLN; show (_ + 1) * 16 ≤ _; omega) (unhide HL1).size ?_))
                  intro v2 w2 hown2 hgr2
                  have HL2 := hide ((unhide HL1).app hown2 hgr2)
                  clear hown2 hgr2
                  go_wp2
                  go_roundg (locs.length - (q + 1))
                  case measure => have := unhide HG; omega
                  case rel => exact ⟨q + 1, by omega, rfl, by go_num, (by rw [unhide HT]; exact HL2)⟩
                · have e : q = locs.length := by omega
                  have HLn : Hid (LI (w.heap.size + 1) cb #[.string nm, .slice b1 ins.length c1, .slice b2 outs.length c2, .slice b3 locs.length c3, .slice b4 mems.length c4, .slice b5 insts.length c5, .slice b6 body.length c6] (w.alloc (.cells #[.slice (some ⟨b0, o0, none⟩) ks.length c0] 29)) wr u3 (A3 ++ locs.map (fun x : ByteArray => lnP [Wloc, x]))) := by
                    have h8 := unhide HL
                    rw [e, List.take_length] at h8
                    exact h8
                  clear e HL HG
                  obtain ⟨A4, hA4⟩ : ∃ A, A = A3 ++ locs.map (fun x : ByteArray => lnP [Wloc, x]) := ⟨_, rfl⟩
                  rw [← hA4] at HLn
                  have HA4 := hide hA4
                  have HQ4 : Hid (A4.length = A1.length + (ins.length + outs.length + locs.length)) := by
                    refine hide ?_
                    rw [hA4, List.length_append, List.length_map, unhide HQ3]
                    try omega
                  clear hA4
                  have HN4 : Hid (A4.length + mems.length ≤ 300000000) := by
                    refine hide ?_
                    have h1 := unhide HNALL
                    have h2 := unhide HQ4
                    omega
                  have k4 : wr.cell? ⟨cb, 4, none⟩ = some (.slice b4 mems.length c4) := (unhide HLn).blk.cell (v := .slice b4 mems.length c4) rfl
                  have hzc4 : cb < wr.heap.size := (unhide HLn).blk.lt
                  go_wp2
                  go_loopg [3, 92] mems.length (fun gh st ix wr => ∃ (q : Nat), q ≤ mems.length ∧ gh = mems.length - q ∧ ix = .int .i64 q ∧ Hid (LI (w.heap.size + 1) cb #[.string nm, .slice b1 ins.length c1, .slice b2 outs.length c2, .slice b3 locs.length c3, .slice b4 mems.length c4, .slice b5 insts.length c5, .slice b6 body.length c6] (w.alloc (.cells #[.slice (some ⟨b0, o0, none⟩) ks.length c0] 29)) wr st (A4 ++ (mems.take q).map (fun v : Int => lnP [Wmem, dcT v]))))
                  case atStart => exact ⟨0, Nat.zero_le _, by omega, rfl, (by rw [List.take_zero, List.map_nil, List.append_nil]; exact HLn)⟩
                  case round =>
                    obtain ⟨q, hq, hg, rfl, HL⟩ := hrel
                    have HG := hide hg
                    clear hg
                    by_cases hlt : q < mems.length
                    · have hbw := unhide HOUT _ (unhide HL).old
                      obtain ⟨_, _, hve, _, _, hex⟩ := unhide HS4
                      simp only [Value.slice.injEq] at hve
                      obtain ⟨rfl, _, rfl⟩ := hve
                      obtain ⟨b, o, cs, rfl, _, hb, hcs, hc, hR⟩ := hex q hlt
                      have hc : ∀ j (hj : j < cs.length), wr.cell? ⟨b, o + q * 1 + j, none⟩ = some cs[j] := fun j hj => by rw [hbw.cell (p := ⟨b, _, none⟩) hb]; exact hc j hj
                      obtain ⟨rfl, hsn⟩ := hR
                      have z0 := hc 0 (by simp)
                      simp only [Nat.mul_one, Nat.add_zero, List.getElem_cons_zero, List.getElem_cons_succ] at z0
                      have hltI : (q : Int) < (mems.length : Int) := by omega
                      have HT := hide (map_take (fun v : Int => lnP [Wmem, dcT v]) (A4) mems q hlt)
                      have HLN : Hid ((A4 ++ (mems.take q).map (fun v : Int => lnP [Wmem, dcT v])).length ≤ 300000000) := by
                        refine hide ?_
                        rw [map_len _ _ _ _ (by omega)]
                        have := unhide HN4
                        omega
                      have hmem := List.getElem_mem hlt
                      clear hc hcs hex
                      generalize A4 ++ (mems.take q).map (fun v : Int => lnP [Wmem, dcT v]) = pre at HL HT HLN
                      have hv32 := (unhide HCL).mems _ hmem
                      have HTX : Hid (lnP [Wmem, dcT mems[q]] = ⟨#[109, 101, 109, 32]⟩ ++ dcT mems[q]) := by
                        refine hide ?_
                        rw [line2, lit_mem]
                        simp only [ba_assoc]
                      rw [unhide HTX] at HT
                      have HDC := hide (l1Dec_ok mems[q] hv32 wr)
                      have hdz := dcT_sz mems[q] hv32
                      generalize dcT mems[q] = dv at *
                      generalize mems[q] = x at *
                      clear hmem hsn hv32
                      go_wp2_with fail
                      refine (unhide HDC).mono ?_
                      rintro e w9 ⟨rfl, hb9⟩
                      have HL1 := hide ((unhide HL).on (hb9.alloc hb9.size (.cells #[.string (⟨#[109, 101, 109, 32]⟩ ++ dv)] 9)))
                      clear hb9
                      go_wp2_with (at_builtin; go_must (refine wpList_append_oneF elStr _ rfl _ _ rfl (w.heap.size + 1) _ _ rfl (unhide HL1).own w9.heap.size (⟨#[109, 101, 109, 32]⟩ ++ dv) rfl (fun j u hu => by rw [World.cell?_alloc_at _ _ _ _ rfl]; simpa [elStr] using hu) (by have h9 := unhide HLN; show (_ + 1) * 16 ≤ _; omega) (unhide HL1).size ?_))
                      intro v2 w2 hown2 hgr2
                      have HL2 := hide ((unhide HL1).app hown2 hgr2)
                      clear hown2 hgr2
                      go_wp2
                      go_roundg (mems.length - (q + 1))
                      case measure => have := unhide HG; omega
                      case rel => exact ⟨q + 1, by omega, rfl, by go_num, (by rw [unhide HT]; exact HL2)⟩
                    · have e : q = mems.length := by omega
                      have HLn : Hid (LI (w.heap.size + 1) cb #[.string nm, .slice b1 ins.length c1, .slice b2 outs.length c2, .slice b3 locs.length c3, .slice b4 mems.length c4, .slice b5 insts.length c5, .slice b6 body.length c6] (w.alloc (.cells #[.slice (some ⟨b0, o0, none⟩) ks.length c0] 29)) wr u3 (A4 ++ mems.map (fun v : Int => lnP [Wmem, dcT v]))) := by
                        have h8 := unhide HL
                        rw [e, List.take_length] at h8
                        exact h8
                      clear e HL HG
                      obtain ⟨A5, hA5⟩ : ∃ A, A = A4 ++ mems.map (fun v : Int => lnP [Wmem, dcT v]) := ⟨_, rfl⟩
                      rw [← hA5] at HLn
                      have HA5 := hide hA5
                      have HQ5 : Hid (A5.length = A1.length + (ins.length + outs.length + locs.length + mems.length)) := by
                        refine hide ?_
                        rw [hA5, List.length_append, List.length_map, unhide HQ4]
                        try omega
                      clear hA5
                      have HN5 : Hid (A5.length + insts.length ≤ 300000000) := by
                        refine hide ?_
                        have h1 := unhide HNALL
                        have h2 := unhide HQ5
                        omega
                      have k5 : wr.cell? ⟨cb, 5, none⟩ = some (.slice b5 insts.length c5) := (unhide HLn).blk.cell (v := .slice b5 insts.length c5) rfl
                      have hzc5 : cb < wr.heap.size := (unhide HLn).blk.lt
                      go_wp2
                      go_loopg [3, 106] insts.length (fun gh st ix wr => ∃ (q : Nat), q ≤ insts.length ∧ gh = insts.length - q ∧ ix = .int .i64 q ∧ Hid (LI (w.heap.size + 1) cb #[.string nm, .slice b1 ins.length c1, .slice b2 outs.length c2, .slice b3 locs.length c3, .slice b4 mems.length c4, .slice b5 insts.length c5, .slice b6 body.length c6] (w.alloc (.cells #[.slice (some ⟨b0, o0, none⟩) ks.length c0] 29)) wr st (A5 ++ (insts.take q).map (fun g : Int => lnP [Wuse, nmAt ks g]))))
                      case atStart => exact ⟨0, Nat.zero_le _, by omega, rfl, (by rw [List.take_zero, List.map_nil, List.append_nil]; exact HLn)⟩
                      case round =>
                        obtain ⟨q, hq, hg, rfl, HL⟩ := hrel
                        have HG := hide hg
                        clear hg
                        by_cases hlt : q < insts.length
                        · have hbw := unhide HOUT _ (unhide HL).old
                          obtain ⟨_, _, hve, _, _, hex⟩ := unhide HS5
                          simp only [Value.slice.injEq] at hve
                          obtain ⟨rfl, _, rfl⟩ := hve
                          obtain ⟨b, o, cs, rfl, _, hb, hcs, hc, hR⟩ := hex q hlt
                          have hc : ∀ j (hj : j < cs.length), wr.cell? ⟨b, o + q * 1 + j, none⟩ = some cs[j] := fun j hj => by rw [hbw.cell (p := ⟨b, _, none⟩) hb]; exact hc j hj
                          obtain ⟨rfl, hsn⟩ := hR
                          have z0 := hc 0 (by simp)
                          simp only [Nat.mul_one, Nat.add_zero, List.getElem_cons_zero, List.getElem_cons_succ] at z0
                          have hltI : (q : Int) < (insts.length : Int) := by omega
                          have HT := hide (map_take (fun g : Int => lnP [Wuse, nmAt ks g]) (A5) insts q hlt)
                          have HLN : Hid ((A5 ++ (insts.take q).map (fun g : Int => lnP [Wuse, nmAt ks g])).length ≤ 300000000) := by
                            refine hide ?_
                            rw [map_len _ _ _ _ (by omega)]
                            have := unhide HN5
                            omega
                          have hmem := List.getElem_mem hlt
                          clear hc hcs hex
                          generalize A5 ++ (insts.take q).map (fun g : Int => lnP [Wuse, nmAt ks g]) = pre at HL HT HLN
                          obtain ⟨hg0, hg1⟩ := (unhide HCL).ins _ hmem
                          have hgn := (unhide HCL).nm _ hmem
                          obtain ⟨gi, hgi⟩ := Int.eq_ofNat_of_zero_le hg0
                          have hgk : gi < ks.length := by omega
                          have hnmg : nmAt ks insts[q] = ks[gi].name := by
                            unfold nmAt
                            rw [hgi]
                            show (match ks[gi]? with | some k => k.name | none => ByteArray.empty) = _
                            rw [List.getElem?_eq_getElem hgk]
                          have HTX : Hid (lnP [Wuse, nmAt ks insts[q]] = ⟨#[117, 115, 101, 32]⟩ ++ ks[gi].name) := by
                            refine hide ?_
                            rw [line2, lit_use, hnmg]
                            simp only [ba_assoc]
                          rw [unhide HTX] at HT
                          rw [hnmg] at hgn
                          obtain ⟨gb, go, gcs, hgbo, _, hgb, hgcs, hgc, hgR⟩ := unhide HX gi hgk
                          simp only [Option.some.injEq, Addr.mk.injEq] at hgbo
                          obtain ⟨rfl, rfl, _⟩ := hgbo
                          have g0 : wr.cell? ⟨b0, o0 + gi * 7, none⟩ = some (.string ks[gi].name) := by
                            rw [hbw.cell (p := ⟨b0, _, none⟩) hgb]
                            obtain ⟨_, _, _, _, _, _, rfl, _⟩ := hgR
                            exact hgc 0 (by simp)
                          have km : wr.cell? ⟨w.heap.size, 0, none⟩ = some (.slice (some ⟨b0, o0, none⟩) ks.length c0) := (box_cell (B := 0) (unhide HL).old 0).trans rfl
                          have hgkI : (gi : Int) < (ks.length : Int) := by omega
                          rw [hgi] at z0
                          generalize ks[gi].name = x at *
                          have HL1 := hide ((unhide HL).on ((Below.refl wr.heap.size wr).alloc (Nat.le_refl _) (.cells #[.string (⟨#[117, 115, 101, 32]⟩ ++ x)] 9)))
                          clear hmem hsn hg0 hg1 hgi hnmg hgcs hgc hgR
                          go_wp2_with (at_builtin; go_must (refine wpList_append_oneF elStr _ rfl _ _ rfl (w.heap.size + 1) _ _ rfl (unhide HL1).own wr.heap.size (⟨#[117, 115, 101, 32]⟩ ++ x) rfl (fun j u hu => by rw [World.cell?_alloc_at _ _ _ _ rfl]; simpa [elStr] using hu) (by have h9 := unhide HLN; show (_ + 1) * 16 ≤ _; omega) (unhide HL1).size ?_))
                          intro v2 w2 hown2 hgr2
                          have HL2 := hide ((unhide HL1).app hown2 hgr2)
                          clear hown2 hgr2
                          go_wp2
                          go_roundg (insts.length - (q + 1))
                          case measure => have := unhide HG; omega
                          case rel => exact ⟨q + 1, by omega, rfl, by go_num, (by rw [unhide HT]; exact HL2)⟩
                        · have e : q = insts.length := by omega
                          have HLn : Hid (LI (w.heap.size + 1) cb #[.string nm, .slice b1 ins.length c1, .slice b2 outs.length c2, .slice b3 locs.length c3, .slice b4 mems.length c4, .slice b5 insts.length c5, .slice b6 body.length c6] (w.alloc (.cells #[.slice (some ⟨b0, o0, none⟩) ks.length c0] 29)) wr u3 (A5 ++ insts.map (fun g : Int => lnP [Wuse, nmAt ks g]))) := by
                            have h8 := unhide HL
                            rw [e, List.take_length] at h8
                            exact h8
                          clear e HL HG
                          obtain ⟨A6, hA6⟩ : ∃ A, A = A5 ++ insts.map (fun g : Int => lnP [Wuse, nmAt ks g]) := ⟨_, rfl⟩
                          rw [← hA6] at HLn
                          have HA6 := hide hA6
                          have HQ6 : Hid (A6.length = A1.length + (ins.length + outs.length + locs.length + mems.length + insts.length)) := by
                            refine hide ?_
                            rw [hA6, List.length_append, List.length_map, unhide HQ5]
                            try omega
                          clear hA6
                          have HN6 : Hid (A6.length + body.length ≤ 300000000) := by
                            refine hide ?_
                            have h1 := unhide HNALL
                            have h2 := unhide HQ6
                            omega
                          have k6 : wr.cell? ⟨cb, 6, none⟩ = some (.slice b6 body.length c6) := (unhide HLn).blk.cell (v := .slice b6 body.length c6) rfl
                          have hzc6 : cb < wr.heap.size := (unhide HLn).blk.lt
                          go_wp2
                          go_loopg [3, 124] body.length (fun gh st ix wr => ∃ (q : Nat), q ≤ body.length ∧ gh = body.length - q ∧ ix = .int .i64 q ∧ Hid (LI (w.heap.size + 1) cb #[.string nm, .slice b1 ins.length c1, .slice b2 outs.length c2, .slice b3 locs.length c3, .slice b4 mems.length c4, .slice b5 insts.length c5, .slice b6 body.length c6] (w.alloc (.cells #[.slice (some ⟨b0, o0, none⟩) ks.length c0] 29)) wr st (A6 ++ (body.take q).map (fun s : DStm => lnP (stmP s)))))
                          case atStart => exact ⟨0, Nat.zero_le _, by omega, rfl, (by rw [List.take_zero, List.map_nil, List.append_nil]; exact HLn)⟩
                          case round =>
                            obtain ⟨q, hq, hg, rfl, HL⟩ := hrel
                            have HG := hide hg
                            clear hg
                            by_cases hlt : q < body.length
                            · have hbw := unhide HOUT _ (unhide HL).old
                              obtain ⟨_, _, hve, _, _, hex⟩ := unhide HS6
                              simp only [Value.slice.injEq] at hve
                              obtain ⟨rfl, _, rfl⟩ := hve
                              obtain ⟨b, o, cs, rfl, _, hb, hcs, hc, hR⟩ := hex q hlt
                              have hc : ∀ j (hj : j < cs.length), wr.cell? ⟨b, o + q * 6 + j, none⟩ = some cs[j] := fun j hj => by rw [hbw.cell (p := ⟨b, _, none⟩) hb]; exact hc j hj
                              obtain ⟨s1, s2, s3, rfl, hsn, hk1, hk2, g1, g2, g3⟩ := hR
                              have z0 := hc 0 (by simp)
                              have z1 := hc 1 (by simp)
                              have z2 := hc 2 (by simp)
                              have z3 := hc 3 (by simp)
                              have z4 := hc 4 (by simp)
                              have z5 := hc 5 (by simp)
                              simp only [Nat.mul_one, Nat.add_zero, List.getElem_cons_zero, List.getElem_cons_succ] at z0 z1 z2 z3 z4 z5
                              have hltI : (q : Int) < (body.length : Int) := by omega
                              have HT := hide (map_take (fun s : DStm => lnP (stmP s)) (A6) body q hlt)
                              have HLN : Hid ((A6 ++ (body.take q).map (fun s : DStm => lnP (stmP s))).length ≤ 300000000) := by
                                refine hide ?_
                                rw [map_len _ _ _ _ (by omega)]
                                have := unhide HN6
                                omega
                              have hmem := List.getElem_mem hlt
                              clear hc hcs hex
                              generalize A6 ++ (body.take q).map (fun s : DStm => lnP (stmP s)) = pre at HL HT HLN
                              have hlnq := unhide HLNS _ hmem
                              have HLQ := hide (l3Line_ok body[q] s1 s2 s3 (wr.alloc (.cells #[.int .i64 body[q].kind, .string body[q].name, .int .i64 body[q].at_, s1, s2, s3] 47)) hlnq ((g1.stays RStr_kept hbw).stays RStr_kept ((Below.refl _ _).alloc (Nat.le_refl _) _)) ((g2.stays RItem_kept hbw).stays RItem_kept ((Below.refl _ _).alloc (Nat.le_refl _) _)) ((g3.stays RItems_kept hbw).stays RItems_kept ((Below.refl _ _).alloc (Nat.le_refl _) _)))
                              have P1 := hide ((Below.refl wr.heap.size wr).alloc (Nat.le_refl _) (.cells #[.int .i64 body[q].kind, .string body[q].name, .int .i64 body[q].at_, s1, s2, s3] 47))
                              generalize lnP (stmP body[q]) = ln at *
                              generalize body[q] = st at *
                              obtain ⟨oa, oc, rfl⟩ := g1.shape
                              obtain ⟨ca, cc, rfl⟩ := g2.shape
                              obtain ⟨aa, ac, rfl⟩ := g3.shape
                              obtain ⟨kd, snm, at0, souts, code, args⟩ := st
                              simp only at *
                              clear hmem hlnq g1 g2 g3 hk1 hk2 hsn
                              go_wp2_with fail
                              refine (unhide HLQ).mono ?_
                              rintro e w9 ⟨rfl, hb9⟩
                              have Q1 : Hid (Below wr.heap.size wr w9) := (unhide P1).trans (hb9.mono (unhide P1).size)
                              have HL1 := hide ((unhide HL).on ((unhide Q1).alloc (unhide Q1).size (.cells #[.string ln] 9)))
                              clear hb9
                              go_wp2_with (at_builtin; go_must (refine wpList_append_oneF elStr _ rfl _ _ rfl (w.heap.size + 1) _ _ rfl (unhide HL1).own w9.heap.size ln rfl (fun j u hu => by rw [World.cell?_alloc_at _ _ _ _ rfl]; simpa [elStr] using hu) (by have h9 := unhide HLN; show (_ + 1) * 16 ≤ _; omega) (unhide HL1).size ?_))
                              intro v2 w2 hown2 hgr2
                              have HL2 := hide ((unhide HL1).app hown2 hgr2)
                              clear hown2 hgr2
                              go_wp2
                              go_roundg (body.length - (q + 1))
                              case measure => have := unhide HG; omega
                              case rel => exact ⟨q + 1, by omega, rfl, by go_num, (by rw [unhide HT]; exact HL2)⟩
                            · have e : q = body.length := by omega
                              have HLn : Hid (LI (w.heap.size + 1) cb #[.string nm, .slice b1 ins.length c1, .slice b2 outs.length c2, .slice b3 locs.length c3, .slice b4 mems.length c4, .slice b5 insts.length c5, .slice b6 body.length c6] (w.alloc (.cells #[.slice (some ⟨b0, o0, none⟩) ks.length c0] 29)) wr u3 (A6 ++ body.map (fun s : DStm => lnP (stmP s)))) := by
                                have h8 := unhide HL
                                rw [e, List.take_length] at h8
                                exact h8
                              clear e HL HG
                              obtain ⟨A7, hA7⟩ : ∃ A, A = A6 ++ body.map (fun s : DStm => lnP (stmP s)) := ⟨_, rfl⟩
                              rw [← hA7] at HLn
                              have HA7 := hide hA7
                              have HQ7 : Hid (A7.length = A1.length + (ins.length + outs.length + locs.length + mems.length + insts.length + body.length)) := by
                                refine hide ?_
                                rw [hA7, List.length_append, List.length_map, unhide HQ6]
                                try omega
                              clear hA7
                              have HL1 := hide ((unhide HLn).on ((Below.refl wr.heap.size wr).alloc (Nat.le_refl _) (.cells #[.string ⟨#[101, 110, 100, 99, 108, 97, 115, 115]⟩] 9)))
                              have HLN : Hid (A7.length ≤ 300000000) := by
                                refine hide ?_
                                have h1 := unhide HNALL
                                have h2 := unhide HQ7
                                omega
                              go_wp2_with (at_builtin; go_must (refine wpList_append_oneF elStr _ rfl _ _ rfl (w.heap.size + 1) _ _ rfl (unhide HL1).own wr.heap.size ⟨#[101, 110, 100, 99, 108, 97, 115, 115]⟩ rfl (fun j u hu => by rw [World.cell?_alloc_at _ _ _ _ rfl]; simpa [elStr] using hu) (by have h9 := unhide HLN; show (_ + 1) * 16 ≤ _; omega) (unhide HL1).size ?_))
                              intro v2 w2 hown2 hgr2
                              have HL2 := hide ((unhide HL1).app hown2 hgr2)
                              clear hown2 hgr2
                              have HFIN : Hid (A7 ++ [⟨#[101, 110, 100, 99, 108, 97, 115, 115]⟩] = prior ks (i + 1)) := by
                                refine hide ?_
                                rw [unhide HNX, unhide HA7, unhide HA6, unhide HA5, unhide HA4, unhide HA3, unhide HA2, unhide HA1]
                                unfold clsL
                                rw [line2, line1, lit_cls]
                                simp only [List.append_assoc, List.cons_append, List.nil_append, ba_assoc]
                                rfl
                              have HO9 : Hid (OwnV elStr w2 (w.heap.size + 1) v2 (prior ks (i + 1))) := by
                                have h8 := (unhide HL2).own
                                rw [unhide HFIN] at h8
                                exact h8
                              have HB9 := hide (unhide HL2).old
                              clear HL2 HFIN
                              go_wp2
                              go_roundg (ks.length - (i + 1))
                              case measure => have := unhide HG0; omega
                              case rel => exact ⟨i + 1, by omega, rfl, by go_num, HO9, HB9⟩
    · have e : i = ks.length := by omega
      have HOE : Hid (OwnV elStr wr (w.heap.size + 1) u3 (machL ks)) := by
        have h8 := unhide HOW
        rw [e] at h8
        unfold prior at h8
        rw [List.take_length] at h8
        exact h8
      have HLSZ := hide (lsz_mem (machL ks))
      have hall := unhide HALL
      have hmlen := lsz_len (machL ks)
      have HTXT : Hid (txL ((machL ks).take (machL ks).length) = TX) := by
        refine hide ?_
        rw [List.take_length]
        exact unhide HTX0
      have HTK := hide (txL_take (machL ks))
      have HTZ := hide (txL_tsz (machL ks))
      clear e HOW HX HPR HPL HV
      generalize machL ks = LL at *
      have hbA := (Below.refl wr.heap.size wr).alloc (Nat.le_refl _) (.cells #[] 5)
      have HO1 := hide ((unhide HOE).below hbA)
      have HB1' := hide ((unhide HBW).trans (hbA.mono hws))
      have HR1 : Hid ((wr.alloc (.cells #[] 5)).ownsRow (w.heap.size + 1) 5 1 (.slice (some ⟨wr.heap.size, 0, none⟩) 0 0) 0 (Lib.strCells ByteArray.empty)) := ⟨rfl, Or.inr ⟨_, _, #[], rfl, hws, Deep.blk_alloc_new _ _, Nat.le_refl _, Nat.zero_le _, by simp, by simp [Lib.strCells]⟩⟩
      obtain ⟨la, lc, hu3⟩ := (unhide HOE).slice
      subst hu3
      obtain ⟨iB, hiB, hB0, hB1, hB2⟩ := info_parts info_byte
      have HIB := hide (And.intro hiB (And.intro hB0 (And.intro hB1 hB2)))
      clear hbA hiB hB0 hB1 hB2
      go_wp2
      go_loopg [18, 141] LL.length (fun gh ov ix wr => ∃ (q : Nat), q ≤ LL.length ∧ gh = LL.length - q ∧ ix = .int .i64 q ∧ Hid (wr.ownsRow (w.heap.size + 1) 5 1 ov (txL (LL.take q)).size (Lib.strCells (txL (LL.take q)))) ∧ Hid (OwnV elStr wr (w.heap.size + 1) (.slice la LL.length lc) LL) ∧ Hid (Below (w.heap.size + 1) (w.alloc (.cells #[.slice (some ⟨b0, o0, none⟩) ks.length c0] 29)) wr))
      case atStart => exact ⟨0, Nat.zero_le _, by omega, rfl, HR1, HO1, HB1'⟩
      case round =>
        obtain ⟨q, hq, hg, rfl, HR, HO, HB⟩ := hrel
        have HG := hide hg
        clear hg
        have hws2 : w.heap.size + 1 ≤ wr.heap.size := by have := (unhide HB).size; simpa using this
        by_cases hlt : q < LL.length
        · have hsl := (unhide HO).at (R := RStr) (fun x hx => ⟨rfl, by have := unhide HLSZ x hx; unfold Len; omega⟩) (by show _ * 16 ≤ _; omega)
          obtain ⟨_, _, hve, _, _, hex⟩ := hsl
          simp only [Value.slice.injEq] at hve
          obtain ⟨rfl, _, rfl⟩ := hve
          obtain ⟨b, o, cs, rfl, _, hb, hcs, hc, ⟨rfl, _⟩⟩ := hex q hlt
          have z0 : wr.cell? ⟨b, o + q, none⟩ = some (.string LL[q]) := by
            have h0 := hc 0 (by simp)
            have e1 : elStr.sz = 1 := rfl
            rw [e1, Nat.mul_one, Nat.add_zero] at h0
            exact h0
          have hltI : (q : Int) < (LL.length : Int) := by omega
          have HT := hide (unhide HTK q hlt)
          have hz := unhide HTZ q hlt
          obtain ⟨iB1, iB2, iB3, iB4⟩ := unhide HIB
          have HII := hide (And.intro iB1 (And.intro iB2 (And.intro iB3 iB4)))
          clear hex hc hcs iB1 iB2 iB3 iB4
          generalize txL (LL.take q) = tq at *
          generalize LL[q] = ln at *
          go_wp2_with (at_builtin; go_must (refine Lib.wpList_append_own_string _ rfl _ _ 49 9 rfl (w.heap.size + 1) 5 iB Tryz.underlying49 Tryz.underlying9 (unhide HII).1 (unhide HII).2.1 (unhide HII).2.2.1 (unhide HII).2.2.2 _ _ _ rfl (unhide HR) ln rfl (by unfold maxLen; omega) (by omega) hws2 ?_))
          intro v7 w7 hr7 hg7 _
          have HR7 := hide (hr7)
          have hne7 := rows_ne (unhide HO) (unhide HR) (by decide)
          have HO7 := hide (own_keep (unhide HO) hg7 hne7)
          have HB7 := hide ((unhide HB).grown hg7 hws2 (fun k e => (own_base (unhide HR) k e)))
          have hws7 : w.heap.size + 1 ≤ w7.heap.size := Nat.le_trans hws2 hg7.size
          have hbA := (Below.refl w7.heap.size w7).alloc (Nat.le_refl _) (.cells #[.int .u8 10] 5)
          have HR8 := hide (row_below (unhide HR7) hbA)
          have HO8 := hide ((unhide HO7).below hbA)
          have HB8 := hide ((unhide HB7).trans (hbA.mono hws7))
          clear hr7 hg7 hne7 hbA
          go_wp2_with (at_builtin; go_must (refine wpList_append_own _ rfl _ _ 49 rfl (w.heap.size + 1) 5 iB (.int .u8 0) 1 1 Tryz.underlying49 (unhide HII).1 (unhide HII).2.1 (unhide HII).2.2.1 (unhide HII).2.2.2 rfl (by decide) _ _ _ rfl (unhide HR8) ⟨w7.heap.size, 0, none⟩ 1 1 [.int .u8 10] rfl rfl (fun j u hu => by rw [Addr.add_lit, Nat.zero_add, World.cell?_alloc_at _ _ _ _ rfl]; simpa using hu) (fun u hu => by simp only [List.mem_cons, List.not_mem_nil, or_false] at hu; subst hu; rfl) (by unfold maxLen; omega) (by omega) (by simp; omega) ?_))
          intro v9 w9 hr9 hg9 _
          have hne9 := rows_ne (unhide HO8) (unhide HR8) (by decide)
          have HO9 := hide (own_keep (unhide HO8) hg9 hne9)
          have HB9 := hide ((unhide HB8).grown hg9 (by simp; omega) (fun k e => (own_base (unhide HR8) k e)))
          have HR9 : Hid (w9.ownsRow (w.heap.size + 1) 5 1 v9 (txL (LL.take (q + 1))).size (Lib.strCells (txL (LL.take (q + 1))))) := by
            refine hide ?_
            rw [unhide HT, strCells_appP, strCells_appP, ba_size, ba_size]
            have e1 : Wnl.size = 1 := rfl
            have e2 : Lib.strCells Wnl = [.int .u8 10] := rfl
            rw [e1, e2, ← Nat.add_assoc]
            exact hr9
          clear hr9 hg9 hne9
          go_wp2
          go_roundg (LL.length - (q + 1))
          case measure => have := unhide HG; omega
          case rel => exact ⟨q + 1, by omega, rfl, by go_num, HR9, HO9, HB9⟩
        · have e : q = LL.length := by omega
          have hcv : (convert 49 9 u18).run Tryz.prog wr = .ok (.string TX) wr := by
            have h8 := unhide HR
            rw [e, unhide HTXT] at h8
            exact conv_own wr _ _ _ _ h8
          have HF := hide (unhide HOUT _ (unhide HB))
          clear e
          go_wp2
          go_ret
          exact ⟨rfl, unhide HF⟩

end Go.Proofs.YtmglbkndjnflkaaGreatDoor
