import Derived.Test.YtajabbnlbopcbaaGreatDoorPG5
namespace Go.Proofs.YtajabbnlbopcbaaGreatDoor
open Go.RowKit
set_option linter.unusedSimpArgs false
set_option linter.unusedVariables false
def Does (ts : List TK) (W0 : World) (q : Nat) (tv : Value) (F : FuncId) (args : List Value) (L : List Pc) (c : List DItem) (L' : List Pc) : Prop :=
 ∀ (W1 w : World) (xs : List DItem) (iv : Value),Px ts W0 q tv W1 w L xs iv → xs.length + c.length ≤ 100000 → Calls Tryz.prog F (Value.pointer (some ⟨q,0,none⟩) :: args).toArray w (PxAns ts W0 q tv W1 w iv (.tuple #[]) L' (xs ++ c))
def whI (c : DCond) : DItem:=⟨23,if c.on = true then 1 else 0,c.name⟩
section
variable {ts : List TK} {W0 : World} {q : Nat} {tv iv iv' : Value} {W1 w : World} {L : List Pc} {xs : List DItem}
theorem Px.same {xs' : List DItem} (h : Px ts W0 q tv W1 w L xs iv) (e : xs = xs') : Px ts W0 q tv W1 w L xs' iv:=e ▸ h
theorem OwnV.kq {α : Type} {E : ElF Tryz.prog α} {A B : World} {base : Nat} {v : Value} {ys : List α} (h : OwnV E A base v ys) (hx : Px ts W0 q tv W1 A L xs iv) (hk : Kq q iv iv' A B) (hT : E.T ≠ 88) (hT2 : E.T ≠ 83) : OwnV E B base v ys:=h.ofBlock (fun b hb => by
 obtain ⟨cur,hh⟩:=h.cellT hb
 have hb' : BlkAt A b E.T cur:=hh
 exact hk.other b hb'.lt (hx.ne hb' hT2) (hx.nrow hb' hT))
set_option maxHeartbeats 4000000 in
theorem sampled_ok {I : List Pc} {c : List DItem} (hP : ∀ M,Does ts W0 q tv 148 [] (I ++ M) c M) (cs : List DCond) (hn : ∀ k ∈ cs,k.name.size ≤ 40) (hlen : cs.length ≤ 20000) {t : Pc} (ht1 : ¬ t.text = Kwhen) (ht2 : ¬ t.text = Kwhenot) (L : List Pc) :
  Does ts W0 q tv 147 [] (I ++ (cs.flatMap cdK ++ t :: L)) (c ++ cs.map whI) (t :: L):=by
 intro W1 w xs iv hpx hl
 rw [List.length_append,List.length_map] at hl
 have HC:=hide (hP _ W1 w xs iv hpx (by omega))
 have HN:=hide hn
 have HH:=hide (And.intro ht1 ht2)
 clear hP hpx hn ht1 ht2
 obtain ⟨PO,hPO⟩ : ∃ PO : Ending → World → Prop,PO = PxAns ts W0 q tv W1 w iv (.tuple #[]) (t :: L) (xs ++ (c ++ cs.map whI)):=⟨_,rfl⟩
 rw [← hPO]
 have HPO:=hide hPO
 clear hPO
 go_enter Tryz.func147,Tryz.ntmps147
 go_wp2_with fail
 refine (uh HC).mono ?_
 rintro e w1 ⟨iv1,rfl,hp1,hk1⟩
 have HP1:=hide hp1
 have HK1:=hide hk1
 have HC2:=hide (conditions_ok cs hp1.ps (uh HN) hlen (uh HH).1 (uh HH).2)
 clear hp1 hk1 HC
 go_wp2_with fail
 refine (uh HC2).mono ?_
 rintro e w2 ⟨a,cc,rfl,hown,hps,htr⟩
 have HP2:=hide ((uh HP1).go hps htr)
 have HK2:=hide ((uh HK1).trans (Kq.of_tr htr))
 have HO2:=hide hown
 clear hown hps htr HC2 HP1 HK1
 go_wp2
 go_loopg [10] cs.length (fun g i wr => ∃ (k : Nat) (ivr : Value),k ≤ cs.length ∧ g = cs.length - k ∧ i = .int .i64 k ∧ Px ts W0 q tv W1 wr (t :: L) (xs ++ (c ++ (cs.take k).map whI)) ivr ∧ OwnV elCond wr w1.heap.size (.slice a cs.length cc) cs ∧ Kq q iv ivr w wr)
 case atStart => exact ⟨0,iv1,Nat.zero_le _,rfl,rfl,(uh HP2).same (by simp),uh HO2,uh HK2⟩
 case round =>
  obtain ⟨k,ivr,hk,hg,rfl,hpx,hown,hkq⟩:=hrel
  have HG:=hide hg
  have HX:=hide hpx
  have HK:=hide hkq
  have HO:=hide hown
  clear hg hkq hpx
  by_cases hlt : k < cs.length
  ·have hsl : SlAt 2 24 RCond 0 wr (.slice a cs.length cc) cs:=hown.at (R:=RCond) (fun x hx => ⟨rfl,by have:=uh HN x hx; unfold Len; omega⟩) (by simp [elCond]; omega)
   obtain ⟨a9,c9,he9,_,_,hx⟩:=hsl
   simp only [Value.slice.injEq] at he9
   obtain ⟨rfl,_,rfl⟩:=he9
   obtain ⟨b,o,cl,rfl,_,hb,hcs,hc,hR⟩:=hx k hlt
   obtain ⟨rfl,hsn⟩:=hR
   have c0:=hc 0 (by simp)
   have c1:=hc 1 (by simp)
   simp only [Nat.add_zero,List.getElem_cons_zero,List.getElem_cons_succ] at c0 c1
   have HE : Hid ((cs.take k).map whI ++ [whI cs[k]] = (cs.take (k + 1)).map whI):=by
    show _ = _
    rw [List.take_succ_eq_append_getElem hlt,List.map_append]
    rfl
   have hxl : (xs ++ (c ++ (cs.take k).map whI)).length ≤ 100000:=by simp; omega
   have hW : ∀ o : Bool,cs[k].on = o → ∃ v9 : Int,whI cs[k] = ⟨23,v9,cs[k].name⟩ ∧ v9 = if o = true then 1 else 0:=fun o9 h9 => ⟨_,by unfold whI; rw [h9],rfl⟩
   obtain ⟨v9,hw9,hv9⟩:=hW _ rfl
   rw [hw9] at HE
   generalize hu : cs[k] = u at *
   obtain ⟨nm,on⟩:=u
   simp only at *
   have hA : Below wr.heap.size wr ((wr.alloc (.cells #[.string nm,.bool on] 86)).alloc (.cells #[.int .i64 23,.int .i64 v9,.string nm] 88)):=((Below.refl _ _).alloc (Nat.le_refl _) _).alloc (by simp) _
   have HEM:=hide (emit_ok ((uh HX).below hA) 23 v9 nm hxl)
   have HKA:=hide ((uh HK).trans (Kq.of_below hA))
   have HOA:=hide ((uh HO).below hA)
   have HXA:=hide ((uh HX).below hA)
   have HL : Hid ((xs ++ (c ++ (cs.take k).map whI)) ++ [⟨23,v9,nm⟩] = xs ++ (c ++ (cs.take (k + 1)).map whI)):=by
    show _ = _
    rw [← uh HE]
    simp
   clear hc hcs hA hown hx hw9 hu HE hsn hW
   cases on
   ·have hv : v9 = 0:=hv9
    clear hv9
    subst hv
    go_wp2_with fail
    refine (uh HEM).mono ?_
    rintro e w5 ⟨iv5,rfl,hp5,hk5⟩
    have HP5:=hide (hp5.same (uh HL))
    have HK5:=hide ((uh HKA).trans hk5)
    have HO5:=hide ((uh HOA).kq (uh HXA) hk5 (by decide) (by decide))
    clear hp5 hk5
    go_wp2
    go_roundg (cs.length - (k + 1))
    case measure => have:=uh HG; omega
    case rel => exact ⟨k + 1,iv5,by omega,rfl,by go_num,uh HP5,uh HO5,uh HK5⟩
   ·have hv : v9 = 1:=hv9
    clear hv9
    subst hv
    go_wp2_with fail
    refine (uh HEM).mono ?_
    rintro e w5 ⟨iv5,rfl,hp5,hk5⟩
    have HP5:=hide (hp5.same (uh HL))
    have HK5:=hide ((uh HKA).trans hk5)
    have HO5:=hide ((uh HOA).kq (uh HXA) hk5 (by decide) (by decide))
    clear hp5 hk5
    go_wp2
    go_roundg (cs.length - (k + 1))
    case measure => have:=uh HG; omega
    case rel => exact ⟨k + 1,iv5,by omega,rfl,by go_num,uh HP5,uh HO5,uh HK5⟩
  ·have e : k = cs.length:=by omega
   have HF : Hid (PO (.returned (.tuple #[])) wr):=by
    show PO _ _
    rw [uh HPO]
    refine ⟨ivr,rfl,(uh HX).same ?_,uh HK⟩
    rw [e,List.take_length]
   clear hown
   subst e
   go_wp2
   first | go_end0 | skip
   exact uh HF
end
end Go.Proofs.YtajabbnlbopcbaaGreatDoor
namespace Go.Proofs.YtajabbnlbopcbaaGreatDoor
open Go.RowKit
set_option linter.unusedSimpArgs false
set_option linter.unusedVariables false
theorem m_operand (n q : Nat) (w : World) : (method (n + 1) 79 (.pointer (some ⟨q, 0, none⟩)) "loop.example/s0043/impl.operand").run Tryz.prog w = .ok (145, .pointer (some ⟨q, 0, none⟩)) w := by
 have h1 : ((Tryz.prog.info? 79).map fun i => (i.methods.find? (·.name == "loop.example/s0043/impl.operand")).map fun m => (m.path, m.func)) = some (some (#[], some (145, true))) := by kernel_rfl
 obtain ⟨i,hi,h2⟩:=Option.map_eq_some_iff.1 h1
 obtain ⟨m,hm,h3⟩:=Option.map_eq_some_iff.1 h2
 simp only [Prod.mk.injEq] at h3
 obtain ⟨hp,hf⟩:=h3
 unfold method
 simp [typeInfo,hi,hm,hp,hf,follow,Place.get,asAddr,fieldPlace,receiverAt,go_sem,Result.andThen]
theorem m_operator (n q : Nat) (w : World) : (method (n + 1) 79 (.pointer (some ⟨q, 0, none⟩)) "loop.example/s0043/impl.operator").run Tryz.prog w = .ok (146, .pointer (some ⟨q, 0, none⟩)) w := by
 have h1 : ((Tryz.prog.info? 79).map fun i => (i.methods.find? (·.name == "loop.example/s0043/impl.operator")).map fun m => (m.path, m.func)) = some (some (#[], some (146, true))) := by kernel_rfl
 obtain ⟨i,hi,h2⟩:=Option.map_eq_some_iff.1 h1
 obtain ⟨m,hm,h3⟩:=Option.map_eq_some_iff.1 h2
 simp only [Prod.mk.injEq] at h3
 obtain ⟨hp,hf⟩:=h3
 unfold method
 simp [typeInfo,hi,hm,hp,hf,follow,Place.get,asAddr,fieldPlace,receiverAt,go_sem,Result.andThen]
theorem m_join (n q : Nat) (w : World) : (method (n + 1) 79 (.pointer (some ⟨q, 0, none⟩)) "loop.example/s0043/impl.join").run Tryz.prog w = .ok (144, .pointer (some ⟨q, 0, none⟩)) w := by
 have h1 : ((Tryz.prog.info? 79).map fun i => (i.methods.find? (·.name == "loop.example/s0043/impl.join")).map fun m => (m.path, m.func)) = some (some (#[], some (144, true))) := by kernel_rfl
 obtain ⟨i,hi,h2⟩:=Option.map_eq_some_iff.1 h1
 obtain ⟨m,hm,h3⟩:=Option.map_eq_some_iff.1 h2
 simp only [Prod.mk.injEq] at h3
 obtain ⟨hp,hf⟩:=h3
 unfold method
 simp [typeInfo,hi,hm,hp,hf,follow,Place.get,asAddr,fieldPlace,receiverAt,go_sem,Result.andThen]
section
variable {ts : List TK} {W0 : World} {q : Nat} {tv iv iv' : Value} {W1 w : World} {L : List Pc} {xs : List DItem}
set_option maxHeartbeats 1000000 in
theorem operand_sampled {t0 : Pc} {M M' : List Pc} {c : List DItem} (hS : Does ts W0 q tv 147 [] (t0 :: M) c M') (h1 : ¬ t0.text = Kmin) (h2 : ¬ t0.text = Knot) : Does ts W0 q tv 145 [] (t0 :: M) c M':=by
 intro W1 w xs iv hpx hl
 have HT1:=hide (px_takesno hpx h1)
 have HH:=hide h2
 have HS:=hide hS
 clear hpx hS h1 h2
 obtain ⟨PO,hPO⟩ : ∃ PO : Ending → World → Prop,PO = PxAns ts W0 q tv W1 w iv (.tuple #[]) M' (xs ++ c):=⟨_,rfl⟩
 rw [← hPO]
 have HPO:=hide hPO
 clear hPO
 go_enter Tryz.func145,Tryz.ntmps145
 go_wp2_with fail
 refine (uh HT1).mono ?_
 rintro e w1 ⟨rfl,hp1,ht1⟩
 have HT2:=hide (px_takesno hp1 (uh HH))
 have HK1:=hide (Kq.of_tr (iv:=iv) ht1)
 clear hp1 ht1 HT1
 go_wp2_with fail
 refine (uh HT2).mono ?_
 rintro e w2 ⟨rfl,hp2,ht2⟩
 have HC:=hide (uh HS W1 w2 xs iv hp2 hl)
 have HK2:=hide ((uh HK1).trans (Kq.of_tr ht2))
 clear hp2 ht2 HT2
 go_wp2_with fail
 refine (uh HC).mono ?_
 rintro e w3 ⟨iv3,rfl,hp3,hk3⟩
 have HF : Hid (PO (.returned (.tuple #[])) w3):=by
  show PO _ _
  rw [uh HPO]
  exact ⟨iv3,rfl,hp3,(uh HK2).trans hk3⟩
 clear hp3 hk3
 go_wp2
 first | go_end0 | skip
 exact uh HF
set_option maxHeartbeats 1000000 in
theorem operand_neg {M M' : List Pc} {c : List DItem} (hO : Does ts W0 q tv 145 [] M c M') : Does ts W0 q tv 145 [] (fx Kmin :: M) (c ++ [⟨4,0,⟨#[]⟩⟩]) M':=by
 intro W1 w xs iv hpx hl
 rw [List.length_append,List.length_singleton] at hl
 have HT1:=hide (px_takes hpx (W:=Kmin) rfl)
 have HO:=hide hO
 clear hpx hO
 obtain ⟨PO,hPO⟩ : ∃ PO : Ending → World → Prop,PO = PxAns ts W0 q tv W1 w iv (.tuple #[]) M' (xs ++ (c ++ [⟨4,0,⟨#[]⟩⟩])):=⟨_,rfl⟩
 rw [← hPO]
 have HPO:=hide hPO
 clear hPO
 go_enter Tryz.func145,Tryz.ntmps145
 go_wp2_with fail
 refine (uh HT1).mono ?_
 rintro e w1 ⟨rfl,hp1,ht1⟩
 have HC:=hide (uh HO W1 w1 xs iv hp1 (by omega))
 have HK1:=hide (Kq.of_tr (iv:=iv) ht1)
 clear hp1 ht1 HT1
 go_wp2_with fail
 refine (uh HC).mono ?_
 rintro e w2 ⟨iv2,rfl,hp2,hk2⟩
 have HE:=hide (emit_ok hp2 4 0 ⟨#[]⟩ (by rw [List.length_append]; omega))
 have HK2:=hide ((uh HK1).trans hk2)
 clear hp2 hk2 HC
 go_wp2_with fail
 refine (uh HE).mono ?_
 rintro e w3 ⟨iv3,rfl,hp3,hk3⟩
 have HF : Hid (PO (.returned (.tuple #[])) w3):=by
  show PO _ _
  rw [uh HPO]
  exact ⟨iv3,rfl,hp3.same (by rw [List.append_assoc]),(uh HK2).trans hk3⟩
 clear hp3 hk3
 go_wp2
 first | go_end0 | skip
 exact uh HF
set_option maxHeartbeats 1000000 in
theorem operand_not {M M' : List Pc} {c : List DItem} (hO : Does ts W0 q tv 145 [] M c M') : Does ts W0 q tv 145 [] (fx Knot :: M) (c ++ [⟨5,0,⟨#[]⟩⟩]) M':=by
 intro W1 w xs iv hpx hl
 rw [List.length_append,List.length_singleton] at hl
 have HT0:=hide (px_takesno hpx (W:=Kmin) (show ¬ Knot = Kmin by decide))
 have HO:=hide hO
 clear hpx hO
 obtain ⟨PO,hPO⟩ : ∃ PO : Ending → World → Prop,PO = PxAns ts W0 q tv W1 w iv (.tuple #[]) M' (xs ++ (c ++ [⟨5,0,⟨#[]⟩⟩])):=⟨_,rfl⟩
 rw [← hPO]
 have HPO:=hide hPO
 clear hPO
 go_enter Tryz.func145,Tryz.ntmps145
 go_wp2_with fail
 refine (uh HT0).mono ?_
 rintro e w0 ⟨rfl,hp0,ht0⟩
 have HT1:=hide (px_takes hp0 (W:=Knot) rfl)
 have HK0:=hide (Kq.of_tr (iv:=iv) ht0)
 clear hp0 ht0 HT0
 go_wp2_with fail
 refine (uh HT1).mono ?_
 rintro e w1 ⟨rfl,hp1,ht1⟩
 have HC:=hide (uh HO W1 w1 xs iv hp1 (by omega))
 have HK1:=hide ((uh HK0).trans (Kq.of_tr ht1))
 clear hp1 ht1 HT1
 go_wp2_with fail
 refine (uh HC).mono ?_
 rintro e w2 ⟨iv2,rfl,hp2,hk2⟩
 have HE:=hide (emit_ok hp2 5 0 ⟨#[]⟩ (by rw [List.length_append]; omega))
 have HK2:=hide ((uh HK1).trans hk2)
 clear hp2 hk2 HC
 go_wp2_with fail
 refine (uh HE).mono ?_
 rintro e w3 ⟨iv3,rfl,hp3,hk3⟩
 have HF : Hid (PO (.returned (.tuple #[])) w3):=by
  show PO _ _
  rw [uh HPO]
  exact ⟨iv3,rfl,hp3.same (by rw [List.append_assoc]),(uh HK2).trans hk3⟩
 clear hp3 hk3
 go_wp2
 first | go_end0 | skip
 exact uh HF
set_option maxHeartbeats 1000000 in
theorem climb_six {M M' : List Pc} {c : List DItem} (hO : Does ts W0 q tv 145 [] M c M') : Does ts W0 q tv 114 [.int .i64 6] M c M':=by
 intro W1 w xs iv hpx hl
 have HC:=hide (hO W1 w xs iv hpx hl)
 clear hpx hO
 obtain ⟨PO,hPO⟩ : ∃ PO : Ending → World → Prop,PO = PxAns ts W0 q tv W1 w iv (.tuple #[]) M' (xs ++ c):=⟨_,rfl⟩
 rw [← hPO]
 have HPO:=hide hPO
 clear hPO
 have hm:=fun n => m_operand n q w
 go_enter Tryz.func114,Tryz.ntmps114
 go_wp2_with fail
 refine (uh HC).mono ?_
 rintro e w1 ⟨iv1,rfl,hp1,hk1⟩
 have HF : Hid (PO (.returned (.tuple #[])) w1):=by
  show PO _ _
  rw [uh HPO]
  exact ⟨iv1,rfl,hp1,hk1⟩
 clear hp1 hk1
 go_wp2
 first | go_end0 | skip
 exact uh HF
def noOp (level : Int) (s : ByteArray) : Prop:=∀ j,j < 14 → ¬ ((opAt j).2.1 = level ∧ s = (opAt j).1)
theorem operator_none {t : Pc} (h : Px ts W0 q tv W1 w (t :: L) xs iv) {level : Int} (hno : noOp level t.text) : Calls Tryz.prog 146 #[.pointer (some ⟨q,0,none⟩),.int .i64 level] w (PxSame2 ts W0 q tv W1 w iv (.tuple #[.agg #[.string ⟨#[]⟩,.int .i64 0,.int .i64 0],.bool false]) (t :: L) xs) :=
 operator_ok h level 14 (Nat.le_refl _) hno (fun h9 => absurd h9 (by omega))
set_option maxHeartbeats 2000000 in
theorem climb_pass {M L : List Pc} {t : Pc} {c : List DItem} {l : Nat} (hl6 : l < 6) (hC : Does ts W0 q tv 114 [.int .i64 ((l + 1 : Nat) : Int)] M c (t :: L)) (hno : noOp l t.text) : Does ts W0 q tv 114 [.int .i64 l] M c (t :: L):=by
 intro W1 w xs iv hpx hl
 have HC : Hid (Calls Tryz.prog 114 #[.pointer (some ⟨q,0,none⟩),.int .i64 ((l : Int) + 1)] w (PxAns ts W0 q tv W1 w iv (.tuple #[]) (t :: L) (xs ++ c))):=by
  have h9:=hC W1 w xs iv hpx hl
  rw [show ((l + 1 : Nat) : Int) = (l : Int) + 1 by omega] at h9
  exact h9
 have HNO:=hide hno
 clear hpx hC hno
 obtain ⟨PO,hPO⟩ : ∃ PO : Ending → World → Prop,PO = PxAns ts W0 q tv W1 w iv (.tuple #[]) (t :: L) (xs ++ c):=⟨_,rfl⟩
 rw [← hPO]
 have HPO:=hide hPO
 clear hPO
 have d6 : ((l : Int) == 6) = false:=by rw [beq_eq_false_iff_ne]; omega
 go_enter Tryz.func114,Tryz.ntmps114
 go_wp2_with fail
 refine (uh HC).mono ?_
 rintro e w1 ⟨iv1,rfl,hp1,hk1⟩
 have HX:=hide hp1
 have HK:=hide hk1
 clear hp1 hk1 HC
 go_wp2
 go_loopg [5] 0 (fun g x wr => wr = w1)
 case atStart => rfl
 case round =>
  rw [hrel]
  clear hrel
  have hm:=fun n => m_operator n q w1
  have HC:=hide (operator_none (uh HX) (uh HNO))
  go_wp2_with fail
  refine (uh HC).mono ?_
  rintro e w2 ⟨rfl,hp2,hk2⟩
  have hA : Below w2.heap.size w2 (w2.alloc (.cells #[.string ⟨#[]⟩,.int .i64 0,.int .i64 0] 145)):=(Below.refl _ _).alloc (Nat.le_refl _) _
  have HF : Hid (PO (.returned (.tuple #[])) (w2.alloc (.cells #[.string ⟨#[]⟩,.int .i64 0,.int .i64 0] 145))):=by
   show PO _ _
   rw [uh HPO]
   exact ⟨iv1,rfl,hp2.below hA,((uh HK).trans hk2).trans (Kq.of_below hA)⟩
  clear hp2 hk2 hA hm
  go_wp2
  first | go_end0 | skip
  exact uh HF
set_option maxHeartbeats 4000000 in
theorem climb_bin {M M2 L : List Pc} {t o : Pc} {c d : List DItem} {l k : Nat} (hl6 : l < 6) (hk : k < 14) (hop : (opAt k).2.1 = l ∧ o.text = (opAt k).1) (hun : ∀ j,j < k → ¬ ((opAt j).2.1 = (l : Int) ∧ o.text = (opAt j).1)) (hC : Does ts W0 q tv 114 [.int .i64 ((l + 1 : Nat) : Int)] M c (o :: M2)) (hC2 : Does ts W0 q tv 114 [.int .i64 ((l + 1 : Nat) : Int)] M2 d (t :: L)) (hno : noOp l t.text) :
  Does ts W0 q tv 114 [.int .i64 l] M (c ++ (d ++ [⟨(opAt k).2.2,0,⟨#[]⟩⟩])) (t :: L):=by
 intro W1 w xs iv hpx hl
 simp only [List.length_append,List.length_singleton] at hl
 have HC : Hid (Calls Tryz.prog 114 #[.pointer (some ⟨q,0,none⟩),.int .i64 ((l : Int) + 1)] w (PxAns ts W0 q tv W1 w iv (.tuple #[]) (o :: M2) (xs ++ c))):=by
  have h9:=hC W1 w xs iv hpx (by omega)
  rw [show ((l + 1 : Nat) : Int) = (l : Int) + 1 by omega] at h9
  exact h9
 have HC2 : Hid (∀ X iv9,Px ts W0 q tv W1 X M2 (xs ++ c) iv9 → Calls Tryz.prog 114 #[.pointer (some ⟨q,0,none⟩),.int .i64 ((l : Int) + 1)] X (PxAns ts W0 q tv W1 X iv9 (.tuple #[]) (t :: L) ((xs ++ c) ++ d))):=fun X iv9 h8 => by
  have h9:=hC2 W1 X (xs ++ c) iv9 h8 (by rw [List.length_append]; omega)
  rw [show ((l + 1 : Nat) : Int) = (l : Int) + 1 by omega] at h9
  exact h9
 have HNO:=hide hno
 have HOP : Hid (∀ X iv9,Px ts W0 q tv W1 X (o :: M2) (xs ++ c) iv9 → Calls Tryz.prog 146 #[.pointer (some ⟨q,0,none⟩),.int .i64 l] X (PxSame2 ts W0 q tv W1 X iv9 (.tuple #[opV (opAt k),.bool true]) M2 (xs ++ c))):=fun X iv9 h8 => by
  have h9:=operator_ok h8 l k (by omega) hun (fun _ => hop)
  rw [decide_eq_true hk,if_pos hk] at h9
  exact h9
 clear hpx hC hC2 hno hop hun
 obtain ⟨PO,hPO⟩ : ∃ PO : Ending → World → Prop,PO = PxAns ts W0 q tv W1 w iv (.tuple #[]) (t :: L) (xs ++ (c ++ (d ++ [⟨(opAt k).2.2,0,⟨#[]⟩⟩]))):=⟨_,rfl⟩
 rw [← hPO]
 have HPO:=hide hPO
 clear hPO
 have HLN : Hid (((xs ++ c) ++ d).length ≤ 100000):=by show _ ≤ _; simp only [List.length_append]; omega
 have HEQ : Hid (((xs ++ c) ++ d) ++ [⟨(opAt k).2.2,0,⟨#[]⟩⟩] = xs ++ (c ++ (d ++ [⟨(opAt k).2.2,0,⟨#[]⟩⟩]))):=by show _ = _; simp only [List.append_assoc]
 obtain ⟨ys,hys⟩ : ∃ ys,ys = xs ++ (c ++ (d ++ [⟨(opAt k).2.2,0,⟨#[]⟩⟩])):=⟨_,rfl⟩
 rw [← hys] at HPO HEQ
 clear hys
 generalize opAt k = x at *
 obtain ⟨xs1,xl,xo⟩:=x
 simp only [opV] at *
 have d6 : ((l : Int) == 6) = false:=by rw [beq_eq_false_iff_ne]; omega
 go_enter Tryz.func114,Tryz.ntmps114
 go_wp2_with fail
 refine (uh HC).mono ?_
 rintro e w1 ⟨iv1,rfl,hp1,hk1⟩
 have HX:=hide hp1
 have HK:=hide hk1
 clear hp1 hk1 HC
 go_wp2
 go_loopg [5] 1 (fun g x wr => (g = 1 ∧ wr = w1) ∨ (g = 0 ∧ ∃ iv9,Px ts W0 q tv W1 wr (t :: L) ys iv9 ∧ Kq q iv iv9 w wr))
 case atStart => exact Or.inl ⟨rfl,rfl⟩
 case round =>
  rcases hrel with ⟨hg,hwr⟩ | ⟨hg,iv9,hx9,hk9⟩
  ·rw [hwr]
   clear hwr
   have HG:=hide hg
   clear hg
   have hm:=fun n => m_operator n q w1
   have HC:=hide (uh HOP _ _ (uh HX))
   go_wp2_with fail
   refine (uh HC).mono ?_
   rintro e w2 ⟨rfl,hp2,hk2⟩
   have hA : Below w2.heap.size w2 (w2.alloc (.cells #[.string xs1,.int .i64 xl,.int .i64 xo] 145)):=(Below.refl _ _).alloc (Nat.le_refl _) _
   have hpA:=hp2.below hA
   have hbx:=blk_box w2 #[.string xs1,.int .i64 xl,.int .i64 xo] 145
   have HKA:=hide (((uh HK).trans hk2).trans (Kq.of_below hA))
   have HNE:=hide (hpA.ne hbx (by decide))
   have HNR:=hide (hpA.nrow hbx (by decide))
   have HBX:=hide hbx
   have HD:=hide (uh HC2 _ _ hpA)
   clear hp2 hk2 hA hpA hbx hm HC
   go_wp2_with fail
   refine (uh HD).mono ?_
   rintro e w3 ⟨iv3,rfl,hp3,hk3⟩
   have hb3:=hk3.blk (uh HBX) (uh HNE) (uh HNR)
   have c0:=hb3.cell (i:=0) (v:=.string xs1) rfl
   have c1:=hb3.cell (i:=1) (v:=.int .i64 xl) rfl
   have c2:=hb3.cell (i:=2) (v:=.int .i64 xo) rfl
   have HJ : Hid (Calls Tryz.prog 144 #[.pointer (some ⟨q,0,none⟩),.agg #[.string xs1,.int .i64 xl,.int .i64 xo]] w3 (PxAns ts W0 q tv W1 w3 iv3 (.tuple #[]) (t :: L) ys)):=by
    have h9:=join_ok hp3 (xs1,xl,xo) (uh HLN)
    simp only at h9
    rw [uh HEQ] at h9
    exact h9
   have HK3:=hide ((uh HKA).trans hk3)
   have hm:=fun n => m_join n q w3
   clear hp3 hk3 hb3 HD
   go_wp2_with fail
   refine (uh HJ).mono ?_
   rintro e w4 ⟨iv4,rfl,hp4,hk4⟩
   have HP4:=hide hp4
   have HK4:=hide ((uh HK3).trans hk4)
   have HF : Hid (PO (.returned (.tuple #[])) w4):=by
    show PO _ _
    rw [uh HPO]
    exact ⟨iv4,rfl,hp4,(uh HK3).trans hk4⟩
   clear hp4 hk4 hm
   by_cases h3 : l = 3
   ·have d3 : ((l : Int) == 3) = true:=by rw [beq_iff_eq]; omega
    clear h3
    go_wp2
    first | go_end0 | skip
    exact uh HF
   ·have d3 : ((l : Int) == 3) = false:=by rw [beq_eq_false_iff_ne]; omega
    clear h3
    go_wp2
    go_roundg 0
    case measure => have:=uh HG; omega
    case rel => exact Or.inr ⟨rfl,iv4,uh HP4,uh HK4⟩
  ·have HX9:=hide hx9
   have HK9:=hide hk9
   have hm:=fun n => m_operator n q wr
   have HC:=hide (operator_none hx9 (uh HNO))
   clear hx9 hk9 hg
   go_wp2_with fail
   refine (uh HC).mono ?_
   rintro e w2 ⟨rfl,hp2,hk2⟩
   have hA : Below w2.heap.size w2 (w2.alloc (.cells #[.string ⟨#[]⟩,.int .i64 0,.int .i64 0] 145)):=(Below.refl _ _).alloc (Nat.le_refl _) _
   have HF : Hid (PO (.returned (.tuple #[])) (w2.alloc (.cells #[.string ⟨#[]⟩,.int .i64 0,.int .i64 0] 145))):=by
    show PO _ _
    rw [uh HPO]
    exact ⟨iv9,rfl,hp2.below hA,((uh HK9).trans hk2).trans (Kq.of_below hA)⟩
   clear hp2 hk2 hA hm
   go_wp2
   first | go_end0 | skip
   exact uh HF
end
end Go.Proofs.YtajabbnlbopcbaaGreatDoor
namespace Go.Proofs.YtajabbnlbopcbaaGreatDoor
open Go.RowKit
set_option linter.unusedSimpArgs false
set_option linter.unusedVariables false
section
variable {ts : List TK} {W0 : World} {q : Nat} {tv iv iv' : Value} {W1 w : World} {L : List Pc} {xs : List DItem}
set_option maxHeartbeats 1000000 in
theorem choice_ok {M1 M2 M3 M' : List Pc} {c1 c2 c3 : List DItem} (h1 : Does ts W0 q tv 109 [] M1 c1 (fx Kthen :: M2)) (h2 : Does ts W0 q tv 109 [] M2 c2 (fx Kelse :: M3)) (h3 : Does ts W0 q tv 109 [] M3 c3 M') :
  Does ts W0 q tv 111 [] M1 (c1 ++ (c2 ++ (c3 ++ [⟨20,0,⟨#[]⟩⟩]))) M':=by
 intro W1 w xs iv hpx hl
 simp only [List.length_append,List.length_singleton] at hl
 have HC1:=hide (h1 W1 w xs iv hpx (by omega))
 have H2:=hide h2
 have H3:=hide h3
 clear hpx h1 h2 h3
 obtain ⟨PO,hPO⟩ : ∃ PO : Ending → World → Prop,PO = PxAns ts W0 q tv W1 w iv (.tuple #[]) M' (xs ++ (c1 ++ (c2 ++ (c3 ++ [⟨20,0,⟨#[]⟩⟩])))):=⟨_,rfl⟩
 rw [← hPO]
 have HPO:=hide hPO
 clear hPO
 go_enter Tryz.func111,Tryz.ntmps111
 go_wp2_with fail
 refine (uh HC1).mono ?_
 rintro e w1 ⟨iv1,rfl,hp1,hk1⟩
 have HC2:=hide (px_want hp1 (W:=Kthen) rfl)
 have HK1:=hide hk1
 clear hp1 hk1 HC1
 go_wp2_with fail
 refine (uh HC2).mono ?_
 rintro e w2 ⟨rfl,hp2,ht2⟩
 have HC3:=hide (uh H2 W1 w2 _ iv1 hp2 (by rw [List.length_append]; omega))
 have HK2:=hide ((uh HK1).trans (Kq.of_tr ht2))
 clear hp2 ht2 HC2 HK1
 go_wp2_with fail
 refine (uh HC3).mono ?_
 rintro e w3 ⟨iv3,rfl,hp3,hk3⟩
 have HC4:=hide (px_want hp3 (W:=Kelse) rfl)
 have HK3:=hide ((uh HK2).trans hk3)
 clear hp3 hk3 HC3 HK2
 go_wp2_with fail
 refine (uh HC4).mono ?_
 rintro e w4 ⟨rfl,hp4,ht4⟩
 have HC5:=hide (uh H3 W1 w4 _ iv3 hp4 (by simp only [List.length_append]; omega))
 have HK4:=hide ((uh HK3).trans (Kq.of_tr ht4))
 clear hp4 ht4 HC4 HK3
 go_wp2_with fail
 refine (uh HC5).mono ?_
 rintro e w5 ⟨iv5,rfl,hp5,hk5⟩
 have HC6:=hide (emit_ok hp5 20 0 ⟨#[]⟩ (by simp only [List.length_append]; omega))
 have HK5:=hide ((uh HK4).trans hk5)
 clear hp5 hk5 HC5 HK4
 go_wp2_with fail
 refine (uh HC6).mono ?_
 rintro e w6 ⟨iv6,rfl,hp6,hk6⟩
 have HF : Hid (PO (.returned (.tuple #[])) w6):=by
  show PO _ _
  rw [uh HPO]
  exact ⟨iv6,rfl,hp6.same (by simp only [List.append_assoc]),(uh HK5).trans hk6⟩
 clear hp6 hk6
 go_wp2
 first | go_end0 | skip
 exact uh HF
set_option maxHeartbeats 1000000 in
theorem expression_if {M M' : List Pc} {c : List DItem} (h1 : Does ts W0 q tv 111 [] M c M') : Does ts W0 q tv 109 [] (fx Kif :: M) c M':=by
 intro W1 w xs iv hpx hl
 have HC1:=hide (px_takes hpx (W:=Kif) rfl)
 have H1:=hide h1
 clear hpx h1
 obtain ⟨PO,hPO⟩ : ∃ PO : Ending → World → Prop,PO = PxAns ts W0 q tv W1 w iv (.tuple #[]) M' (xs ++ c):=⟨_,rfl⟩
 rw [← hPO]
 have HPO:=hide hPO
 clear hPO
 go_enter Tryz.func109,Tryz.ntmps109
 go_wp2_with fail
 refine (uh HC1).mono ?_
 rintro e w1 ⟨rfl,hp1,ht1⟩
 have HC2:=hide (uh H1 W1 w1 xs iv hp1 hl)
 have HK1:=hide (Kq.of_tr (iv:=iv) ht1)
 clear hp1 ht1 HC1
 go_wp2_with fail
 refine (uh HC2).mono ?_
 rintro e w2 ⟨iv2,rfl,hp2,hk2⟩
 have HF : Hid (PO (.returned (.tuple #[])) w2):=by
  show PO _ _
  rw [uh HPO]
  exact ⟨iv2,rfl,hp2,(uh HK1).trans hk2⟩
 clear hp2 hk2
 go_wp2
 first | go_end0 | skip
 exact uh HF
set_option maxHeartbeats 1000000 in
theorem expression_climb {a b : Pc} {M M' : List Pc} {c : List DItem} (hi : ¬ a.text = Kif) (hd : DlIs a b M 0 0 0) (h1 : Does ts W0 q tv 114 [.int .i64 1] (a :: b :: M) c M') : Does ts W0 q tv 109 [] (a :: b :: M) c M':=by
 intro W1 w xs iv hpx hl
 have HC1:=hide (px_takesno hpx hi)
 have H1:=hide h1
 have HD:=hide hd
 clear hpx h1 hd hi
 obtain ⟨PO,hPO⟩ : ∃ PO : Ending → World → Prop,PO = PxAns ts W0 q tv W1 w iv (.tuple #[]) M' (xs ++ c):=⟨_,rfl⟩
 rw [← hPO]
 have HPO:=hide hPO
 clear hPO
 go_enter Tryz.func109,Tryz.ntmps109
 go_wp2_with fail
 refine (uh HC1).mono ?_
 rintro e w1 ⟨rfl,hp1,ht1⟩
 have HC2:=hide (delay_ok hp1.ps (uh HD))
 have HP1:=hide hp1
 have HK1:=hide (Kq.of_tr (iv:=iv) ht1)
 clear hp1 ht1 HC1
 go_wp2_with fail
 refine (uh HC2).mono ?_
 rintro e w2 ⟨rfl,hb2⟩
 have hA : Below w2.heap.size w2 (w2.alloc (.cells #[.int .i64 0,.int .i64 0,.string ⟨#[]⟩] 88)):=(Below.refl _ _).alloc (Nat.le_refl _) _
 have hbA:=hb2.trans (hA.mono hb2.size)
 have HC3:=hide (uh H1 W1 _ xs iv ((uh HP1).below hbA) hl)
 have HK2:=hide ((uh HK1).trans (Kq.of_below hbA))
 clear hb2 hA hbA HC2
 go_wp2_with fail
 refine (uh HC3).mono ?_
 rintro e w3 ⟨iv3,rfl,hp3,hk3⟩
 have HF : Hid (PO (.returned (.tuple #[])) w3):=by
  show PO _ _
  rw [uh HPO]
  exact ⟨iv3,rfl,hp3,(uh HK2).trans hk3⟩
 clear hp3 hk3
 go_wp2
 first | go_end0 | skip
 exact uh HF
theorem Ps.skip (h : Ps ts W0 q tv w L iv) (n : Nat) (hn : n ≤ L.length) : ∃ i : Nat,i ≤ 20001 ∧ BlkAt w q 83 #[tv,.int .i64 i,iv] ∧ ∀ X,Tr q w X → BlkAt X q 83 #[tv,.int .i64 ((i : Int) + n),iv] → Ps ts W0 q tv X (L.drop n) iv:=by
 obtain ⟨i,h1,h2,h3⟩:=h.at_
 have hf:=h.few
 refine ⟨i,by omega,h1,fun X hT hX => ⟨h.toks,h.low,h.few,h.good,h.old.trans (hT.below h.old.size h.low),i + n,?_,?_,?_⟩⟩
 ·have e : ((i + n : Nat) : Int) = (i : Int) + n:=by omega
  rw [e]
  exact hX
 ·rw [← h2,← List.map_drop,List.drop_drop]
 ·rw [← h2] at hn
  simp at hn
  omega
set_option maxHeartbeats 2000000 in
theorem expression_fby {a b : Pc} {M M' : List Pc} {c : List DItem} {op val : Int} {n : Nat} (hi : ¬ a.text = Kif) (hn : n = 2 ∨ n = 3) (hd : DlIs a b M op val n) (hnl : n ≤ (a :: b :: M).length) (h1 : Does ts W0 q tv 109 [] ((a :: b :: M).drop n) c M') : Does ts W0 q tv 109 [] (a :: b :: M) (c ++ [⟨op,val,⟨#[]⟩⟩]) M':=by
 intro W1 w xs iv hpx hl
 rw [List.length_append,List.length_singleton] at hl
 have HC1:=hide (px_takesno hpx hi)
 have H1:=hide h1
 have HD:=hide hd
 have HNL:=hide hnl
 clear hpx h1 hd hi hnl
 obtain ⟨PO,hPO⟩ : ∃ PO : Ending → World → Prop,PO = PxAns ts W0 q tv W1 w iv (.tuple #[]) M' (xs ++ (c ++ [⟨op,val,⟨#[]⟩⟩])):=⟨_,rfl⟩
 rw [← hPO]
 have HPO:=hide hPO
 clear hPO
 have hn0 : 0 < (n : Int):=by omega
 have hn3 : n ≤ 3:=by omega
 clear hn
 go_enter Tryz.func109,Tryz.ntmps109
 go_wp2_with fail
 refine (uh HC1).mono ?_
 rintro e w1 ⟨rfl,hp1,ht1⟩
 have HC2:=hide (delay_ok hp1.ps (uh HD))
 have HP1:=hide hp1
 have HK1:=hide (Kq.of_tr (iv:=iv) ht1)
 clear hp1 ht1 HC1
 go_wp2_with fail
 refine (uh HC2).mono ?_
 rintro e w2 ⟨rfl,hb2⟩
 obtain ⟨A,hAA⟩ : ∃ A,A = w2.alloc (.cells #[.int .i64 op,.int .i64 val,.string ⟨#[]⟩] 88):=⟨_,rfl⟩
 have hA : Below w2.heap.size w2 A:=hAA ▸ (Below.refl _ _).alloc (Nat.le_refl _) _
 have hbA:=hb2.trans (hA.mono hb2.size)
 have hPA:=(uh HP1).below hbA
 have hbx : BlkAt A w2.heap.size 88 #[.int .i64 op,.int .i64 val,.string ⟨#[]⟩]:=hAA ▸ blk_box w2 _ _
 have hrow : iv.ownBlock ≠ some w2.heap.size:=(uh HP1).nnew hb2.size
 obtain ⟨i,hi9,hblk,hst⟩:=hPA.ps.skip n (uh HNL)
 have hT : Tr q A (A.setCell ⟨q,1,none⟩ (.int .i64 ((i : Int) + n))):=Tr.setCell _ _ _ _
 have hPB:=hPA.go (hst _ hT (hblk.set 1 _)) hT
 have hneq:=hPA.ne hbx (by decide)
 have hbxB:=hT.blk hbx hneq
 have HC3:=hide (uh H1 W1 _ xs iv hPB (by omega))
 have HKB:=hide (((uh HK1).trans (Kq.of_below hbA)).trans (Kq.of_tr hT))
 have c1:=hblk.cell (i:=1) (v:=.int .i64 i) rfl
 have f1:=hblk.free 1
 have l1:=hblk.lt
 have HBX:=hide (And.intro hbxB (And.intro hneq hrow))
 rw [hAA] at c1 f1 l1
 have HAA:=hide hAA
 clear hb2 hA hbA HC2 hPA hbx hrow hst hT hPB hneq hbxB hblk hAA
 go_wp2_with fail
 rw [← uh HAA]
 refine (uh HC3).mono ?_
 rintro e w3 ⟨iv3,rfl,hp3,hk3⟩
 have hb3:=hk3.blk (uh HBX).1 (uh HBX).2.1 (uh HBX).2.2
 have y0:=hb3.cell (i:=0) (v:=.int .i64 op) rfl
 have y1:=hb3.cell (i:=1) (v:=.int .i64 val) rfl
 have y2:=hb3.cell (i:=2) (v:=.string ⟨#[]⟩) rfl
 have HE:=hide (emit_ok hp3 op val ⟨#[]⟩ (by rw [List.length_append]; omega))
 have HK3:=hide ((uh HKB).trans hk3)
 clear hp3 hk3 hb3 HC3
 go_wp2_with fail
 refine (uh HE).mono ?_
 rintro e w4 ⟨iv4,rfl,hp4,hk4⟩
 have HF : Hid (PO (.returned (.tuple #[])) w4):=by
  show PO _ _
  rw [uh HPO]
  exact ⟨iv4,rfl,hp4.same (by rw [List.append_assoc]),(uh HK3).trans hk4⟩
 clear hp4 hk4
 go_wp2
 first | go_end0 | skip
 exact uh HF
end
end Go.Proofs.YtajabbnlbopcbaaGreatDoor
namespace Go.Proofs.YtajabbnlbopcbaaGreatDoor
open Go.RowKit
set_option linter.unusedSimpArgs false
set_option linter.unusedVariables false
section
variable {ts : List TK} {W0 : World} {q : Nat} {tv iv iv' : Value} {W1 w : World} {L : List Pc} {xs : List DItem}
set_option maxHeartbeats 1000000 in
theorem primary_name {s : ByteArray} (hs : s.size ≤ 40) (M : List Pc) : Does ts W0 q tv 148 [] (nmP s :: M) [⟨3,0,s⟩] M:=by
 intro W1 w xs iv hpx hl
 rw [List.length_singleton] at hl
 have HA:=hide (ahead0_ok hpx.ps)
 have HX:=hide hpx
 clear hpx
 obtain ⟨PO,hPO⟩ : ∃ PO : Ending → World → Prop,PO = PxAns ts W0 q tv W1 w iv (.tuple #[]) M (xs ++ [⟨3,0,s⟩]):=⟨_,rfl⟩
 rw [← hPO]
 have HPO:=hide hPO
 clear hPO
 simp only [nmP] at HA
 have e1 : ((1 : Nat) : Int) = 1:=rfl
 rw [e1] at HA
 clear e1
 go_enter Tryz.func148,Tryz.ntmps148
 go_wp2_with fail
 refine (uh HA).mono ?_
 rintro e w1 ⟨p1,rfl,hb1⟩
 have hA : Below w1.heap.size w1 (w1.alloc (.cells #[.int .i64 1,.string s,.int .i64 0,.int .i64 p1] 105)):=(Below.refl _ _).alloc (Nat.le_refl _) _
 have hbA:=hb1.trans (hA.mono hb1.size)
 have HN:=hide (px_name ((uh HX).below hbA) rfl (show s.size ≤ 20000 by omega))
 have HK1:=hide (Kq.of_below (q:=q) (iv:=iv) hbA)
 clear hb1 hA hbA HA
 go_wp2_with fail
 refine (uh HN).mono ?_
 rintro e w2 ⟨rfl,hp2,ht2⟩
 have HE:=hide (emit_ok hp2 3 0 s (by omega))
 have HK2:=hide ((uh HK1).trans (Kq.of_tr ht2))
 clear hp2 ht2 HN
 simp only [nmP]
 go_wp2_with fail
 refine (uh HE).mono ?_
 rintro e w3 ⟨iv3,rfl,hp3,hk3⟩
 have HF : Hid (PO (.returned (.tuple #[])) w3):=by
  show PO _ _
  rw [uh HPO]
  exact ⟨iv3,rfl,hp3,(uh HK2).trans hk3⟩
 clear hp3 hk3
 go_wp2
 first | go_end0 | skip
 exact uh HF
set_option maxHeartbeats 1000000 in
theorem primary_num {v : Int} (M : List Pc) : Does ts W0 q tv 148 [] (nuP v :: M) [⟨1,v,⟨#[]⟩⟩] M:=by
 intro W1 w xs iv hpx hl
 rw [List.length_singleton] at hl
 have HA:=hide (ahead0_ok hpx.ps)
 have HX:=hide hpx
 clear hpx
 obtain ⟨PO,hPO⟩ : ∃ PO : Ending → World → Prop,PO = PxAns ts W0 q tv W1 w iv (.tuple #[]) M (xs ++ [⟨1,v,⟨#[]⟩⟩]):=⟨_,rfl⟩
 rw [← hPO]
 have HPO:=hide hPO
 clear hPO
 simp only [nuP] at HA
 have e1 : ((2 : Nat) : Int) = 2:=rfl
 rw [e1] at HA
 clear e1
 generalize dcT v = s at HA
 go_enter Tryz.func148,Tryz.ntmps148
 go_wp2_with fail
 refine (uh HA).mono ?_
 rintro e w1 ⟨p1,rfl,hb1⟩
 obtain ⟨A,hAA⟩ : ∃ A,A = w1.alloc (.cells #[.int .i64 2,.string s,.int .i64 v,.int .i64 p1] 105):=⟨_,rfl⟩
 have hA : Below w1.heap.size w1 A:=hAA ▸ (Below.refl _ _).alloc (Nat.le_refl _) _
 have hbA:=hb1.trans (hA.mono hb1.size)
 have hPA:=(uh HX).below hbA
 have hbx : BlkAt A w1.heap.size 105 #[.int .i64 2,.string s,.int .i64 v,.int .i64 p1]:=hAA ▸ blk_box w1 _ _
 obtain ⟨i,hi9,hblk,hst⟩:=hPA.ps.step
 have hT : Tr q A (A.setCell ⟨q,1,none⟩ (.int .i64 ((i : Int) + 1))):=Tr.setCell _ _ _ _
 have hPB:=hPA.go (hst _ hT (hblk.set 1 _)) hT
 have hneq:=hPA.ne hbx (by decide)
 have hbxB:=hT.blk hbx hneq
 have HE:=hide (emit_ok hPB 1 v ⟨#[]⟩ (by omega))
 have HKB:=hide ((Kq.of_below (q:=q) (iv:=iv) hbA).trans (Kq.of_tr hT))
 have c1:=hblk.cell (i:=1) (v:=.int .i64 i) rfl
 have f1:=hblk.free 1
 have l1:=hblk.lt
 have d0:=hbx.cell (i:=0) (v:=.int .i64 2) rfl
 have d2:=hbxB.cell (i:=2) (v:=.int .i64 v) rfl
 rw [hAA] at c1 f1 l1 d0 d2
 have HAA:=hide hAA
 clear hb1 hA hbA HA hPA hbx hst hT hPB hneq hbxB hblk hAA
 go_wp2_with fail
 rw [← uh HAA]
 refine (uh HE).mono ?_
 rintro e w3 ⟨iv3,rfl,hp3,hk3⟩
 have HF : Hid (PO (.returned (.tuple #[])) w3):=by
  show PO _ _
  rw [uh HPO]
  exact ⟨iv3,rfl,hp3,(uh HKB).trans hk3⟩
 clear hp3 hk3
 go_wp2
 first | go_end0 | skip
 exact uh HF
set_option maxHeartbeats 1000000 in
theorem primary_true (M : List Pc) : Does ts W0 q tv 148 [] (fx Ltrue :: M) [⟨2,1,⟨#[]⟩⟩] M:=by
 intro W1 w xs iv hpx hl
 rw [List.length_singleton] at hl
 obtain ⟨PO,hPO⟩ : ∃ PO : Ending → World → Prop,PO = PxAns ts W0 q tv W1 w iv (.tuple #[]) M (xs ++ [⟨2,1,⟨#[]⟩⟩]):=⟨_,rfl⟩
 rw [← hPO]
 have HPO:=hide hPO
 clear hPO
 have HA:=hide (ahead0_ok hpx.ps)
 have HX:=hide hpx
 clear hpx
 simp only [fx] at HA
 have e1 : ((3 : Nat) : Int) = 3:=rfl
 rw [e1] at HA
 clear e1
 go_enter Tryz.func148,Tryz.ntmps148
 go_wp2_with fail
 refine (uh HA).mono ?_
 rintro e w0 ⟨p1,rfl,hb1⟩
 have hA : Below w0.heap.size w0 (w0.alloc (.cells #[.int .i64 3,.string Ltrue,.int .i64 0,.int .i64 p1] 105)):=(Below.refl _ _).alloc (Nat.le_refl _) _
 have hbA:=hb1.trans (hA.mono hb1.size)
 have HX0:=hide ((uh HX).below hbA)
 have HK0:=hide (Kq.of_below (q:=q) (iv:=iv) hbA)
 clear hb1 hA hbA HA HX
 have HT:=hide (px_takes (uh HX0) (W:=Ltrue) rfl)
 go_wp2_with fail
 refine (uh HT).mono ?_
 rintro e w1 ⟨rfl,hp1,ht1⟩
 have HX1:=hide hp1
 have HK1:=hide ((uh HK0).trans (Kq.of_tr ht1))
 clear hp1 ht1 HT HX0 HK0
 have HE:=hide (emit_ok (uh HX1) 2 1 ⟨#[]⟩ (by omega))
 go_wp2_with fail
 refine (uh HE).mono ?_
 rintro e w9 ⟨iv9,rfl,hp9,hk9⟩
 have HF : Hid (PO (.returned (.tuple #[])) w9):=by
  show PO _ _
  rw [uh HPO]
  exact ⟨iv9,rfl,hp9.same (by simp only [List.append_assoc]),(uh HK1).trans hk9⟩
 clear hp9 hk9
 go_wp2
 first | go_end0 | skip
 exact uh HF
set_option maxHeartbeats 1000000 in
theorem primary_false (M : List Pc) : Does ts W0 q tv 148 [] (fx Lfalse :: M) [⟨2,0,⟨#[]⟩⟩] M:=by
 intro W1 w xs iv hpx hl
 rw [List.length_singleton] at hl
 obtain ⟨PO,hPO⟩ : ∃ PO : Ending → World → Prop,PO = PxAns ts W0 q tv W1 w iv (.tuple #[]) M (xs ++ [⟨2,0,⟨#[]⟩⟩]):=⟨_,rfl⟩
 rw [← hPO]
 have HPO:=hide hPO
 clear hPO
 have HA:=hide (ahead0_ok hpx.ps)
 have HX:=hide hpx
 clear hpx
 simp only [fx] at HA
 have e1 : ((3 : Nat) : Int) = 3:=rfl
 rw [e1] at HA
 clear e1
 go_enter Tryz.func148,Tryz.ntmps148
 go_wp2_with fail
 refine (uh HA).mono ?_
 rintro e w0 ⟨p1,rfl,hb1⟩
 have hA : Below w0.heap.size w0 (w0.alloc (.cells #[.int .i64 3,.string Lfalse,.int .i64 0,.int .i64 p1] 105)):=(Below.refl _ _).alloc (Nat.le_refl _) _
 have hbA:=hb1.trans (hA.mono hb1.size)
 have HX0:=hide ((uh HX).below hbA)
 have HK0:=hide (Kq.of_below (q:=q) (iv:=iv) hbA)
 clear hb1 hA hbA HA HX
 have HT:=hide (px_takesno (uh HX0) (W:=Ltrue) (show ¬ Lfalse = Ltrue by decide))
 go_wp2_with fail
 refine (uh HT).mono ?_
 rintro e w1 ⟨rfl,hp1,ht1⟩
 have HX1:=hide hp1
 have HK1:=hide ((uh HK0).trans (Kq.of_tr ht1))
 clear hp1 ht1 HT HX0 HK0
 have HT:=hide (px_takes (uh HX1) (W:=Lfalse) rfl)
 go_wp2_with fail
 refine (uh HT).mono ?_
 rintro e w2 ⟨rfl,hp1,ht1⟩
 have HX2:=hide hp1
 have HK2:=hide ((uh HK1).trans (Kq.of_tr ht1))
 clear hp1 ht1 HT HX1 HK1
 have HE:=hide (emit_ok (uh HX2) 2 0 ⟨#[]⟩ (by omega))
 go_wp2_with fail
 refine (uh HE).mono ?_
 rintro e w9 ⟨iv9,rfl,hp9,hk9⟩
 have HF : Hid (PO (.returned (.tuple #[])) w9):=by
  show PO _ _
  rw [uh HPO]
  exact ⟨iv9,rfl,hp9.same (by simp only [List.append_assoc]),(uh HK2).trans hk9⟩
 clear hp9 hk9
 go_wp2
 first | go_end0 | skip
 exact uh HF
set_option maxHeartbeats 1000000 in
theorem primary_paren {I M : List Pc} {c : List DItem} (h1 : Does ts W0 q tv 109 [] I c (fx Kcl :: M)) : Does ts W0 q tv 148 [] (fx Kop :: I) c M:=by
 intro W1 w xs iv hpx hl
 have H1:=hide h1
 clear h1
 obtain ⟨PO,hPO⟩ : ∃ PO : Ending → World → Prop,PO = PxAns ts W0 q tv W1 w iv (.tuple #[]) M (xs ++ c):=⟨_,rfl⟩
 rw [← hPO]
 have HPO:=hide hPO
 clear hPO
 have HA:=hide (ahead0_ok hpx.ps)
 have HX:=hide hpx
 clear hpx
 simp only [fx] at HA
 have e1 : ((3 : Nat) : Int) = 3:=rfl
 rw [e1] at HA
 clear e1
 go_enter Tryz.func148,Tryz.ntmps148
 go_wp2_with fail
 refine (uh HA).mono ?_
 rintro e w0 ⟨p1,rfl,hb1⟩
 have hA : Below w0.heap.size w0 (w0.alloc (.cells #[.int .i64 3,.string Kop,.int .i64 0,.int .i64 p1] 105)):=(Below.refl _ _).alloc (Nat.le_refl _) _
 have hbA:=hb1.trans (hA.mono hb1.size)
 have HX0:=hide ((uh HX).below hbA)
 have HK0:=hide (Kq.of_below (q:=q) (iv:=iv) hbA)
 clear hb1 hA hbA HA HX
 have HT:=hide (px_takesno (uh HX0) (W:=Ltrue) (show ¬ Kop = Ltrue by decide))
 go_wp2_with fail
 refine (uh HT).mono ?_
 rintro e w1 ⟨rfl,hp1,ht1⟩
 have HX1:=hide hp1
 have HK1:=hide ((uh HK0).trans (Kq.of_tr ht1))
 clear hp1 ht1 HT HX0 HK0
 have HT:=hide (px_takesno (uh HX1) (W:=Lfalse) (show ¬ Kop = Lfalse by decide))
 go_wp2_with fail
 refine (uh HT).mono ?_
 rintro e w2 ⟨rfl,hp1,ht1⟩
 have HX2:=hide hp1
 have HK2:=hide ((uh HK1).trans (Kq.of_tr ht1))
 clear hp1 ht1 HT HX1 HK1
 have HT:=hide (px_takes (uh HX2) (W:=Kop) rfl)
 go_wp2_with fail
 refine (uh HT).mono ?_
 rintro e w3 ⟨rfl,hp1,ht1⟩
 have HX3:=hide hp1
 have HK3:=hide ((uh HK2).trans (Kq.of_tr ht1))
 clear hp1 ht1 HT HX2 HK2
 have HE:=hide (uh H1 W1 _ xs iv (uh HX3) hl)
 go_wp2_with fail
 refine (uh HE).mono ?_
 rintro e w8 ⟨iv9,rfl,hp8,hk8⟩
 have HW:=hide (px_want hp8 (W:=Kcl) rfl)
 have HK8:=hide ((uh HK3).trans hk8)
 clear hp8 hk8 HE
 go_wp2_with fail
 refine (uh HW).mono ?_
 rintro e w9 ⟨rfl,hp9,ht9⟩
 have hk9:=Kq.of_tr (iv:=iv9) ht9
 have HF : Hid (PO (.returned (.tuple #[])) w9):=by
  show PO _ _
  rw [uh HPO]
  exact ⟨iv9,rfl,hp9.same (by simp only [List.append_assoc]),(uh HK8).trans hk9⟩
 clear hp9 hk9
 go_wp2
 first | go_end0 | skip
 exact uh HF
set_option maxHeartbeats 1000000 in
theorem primary_merge {s : ByteArray} (hs : s.size ≤ 40) {I J M : List Pc} {c d : List DItem} (h1 : Does ts W0 q tv 148 [] I c J) (h2 : Does ts W0 q tv 148 [] J d M) : Does ts W0 q tv 148 [] (fx Kmerge :: nmP s :: I) (c ++ (d ++ [⟨24,0,s⟩])) M:=by
 intro W1 w xs iv hpx hl
 simp only [List.length_append,List.length_singleton] at hl
 have H1:=hide h1
 have H2:=hide h2
 clear h1 h2
 obtain ⟨PO,hPO⟩ : ∃ PO : Ending → World → Prop,PO = PxAns ts W0 q tv W1 w iv (.tuple #[]) M (xs ++ (c ++ (d ++ [⟨24,0,s⟩]))):=⟨_,rfl⟩
 rw [← hPO]
 have HPO:=hide hPO
 clear hPO
 have HA:=hide (ahead0_ok hpx.ps)
 have HX:=hide hpx
 clear hpx
 simp only [fx] at HA
 have e1 : ((3 : Nat) : Int) = 3:=rfl
 rw [e1] at HA
 clear e1
 go_enter Tryz.func148,Tryz.ntmps148
 go_wp2_with fail
 refine (uh HA).mono ?_
 rintro e w0 ⟨p1,rfl,hb1⟩
 have hA : Below w0.heap.size w0 (w0.alloc (.cells #[.int .i64 3,.string Kmerge,.int .i64 0,.int .i64 p1] 105)):=(Below.refl _ _).alloc (Nat.le_refl _) _
 have hbA:=hb1.trans (hA.mono hb1.size)
 have HX0:=hide ((uh HX).below hbA)
 have HK0:=hide (Kq.of_below (q:=q) (iv:=iv) hbA)
 clear hb1 hA hbA HA HX
 have HT:=hide (px_takesno (uh HX0) (W:=Ltrue) (show ¬ Kmerge = Ltrue by decide))
 go_wp2_with fail
 refine (uh HT).mono ?_
 rintro e w1 ⟨rfl,hp1,ht1⟩
 have HX1:=hide hp1
 have HK1:=hide ((uh HK0).trans (Kq.of_tr ht1))
 clear hp1 ht1 HT HX0 HK0
 have HT:=hide (px_takesno (uh HX1) (W:=Lfalse) (show ¬ Kmerge = Lfalse by decide))
 go_wp2_with fail
 refine (uh HT).mono ?_
 rintro e w2 ⟨rfl,hp1,ht1⟩
 have HX2:=hide hp1
 have HK2:=hide ((uh HK1).trans (Kq.of_tr ht1))
 clear hp1 ht1 HT HX1 HK1
 have HT:=hide (px_takesno (uh HX2) (W:=Kop) (show ¬ Kmerge = Kop by decide))
 go_wp2_with fail
 refine (uh HT).mono ?_
 rintro e w3 ⟨rfl,hp1,ht1⟩
 have HX3:=hide hp1
 have HK3:=hide ((uh HK2).trans (Kq.of_tr ht1))
 clear hp1 ht1 HT HX2 HK2
 have HT:=hide (px_takes (uh HX3) (W:=Kmerge) rfl)
 go_wp2_with fail
 refine (uh HT).mono ?_
 rintro e w4 ⟨rfl,hp1,ht1⟩
 have HX4:=hide hp1
 have HK4:=hide ((uh HK3).trans (Kq.of_tr ht1))
 clear hp1 ht1 HT HX3 HK3
 have HN:=hide (px_name (uh HX4) rfl (show s.size ≤ 20000 by omega))
 go_wp2_with fail
 refine (uh HN).mono ?_
 rintro e w5 ⟨rfl,hp5,ht5⟩
 have HE:=hide (uh H1 W1 _ xs iv hp5 (by omega))
 have HK5:=hide ((uh HK4).trans (Kq.of_tr ht5))
 clear hp5 ht5 HN
 simp only [nmP]
 go_wp2_with fail
 refine (uh HE).mono ?_
 rintro e w6 ⟨iv6,rfl,hp6,hk6⟩
 have HE2:=hide (uh H2 W1 _ (xs ++ c) iv6 hp6 (by rw [List.length_append]; omega))
 have HK6:=hide ((uh HK5).trans hk6)
 clear hp6 hk6 HE
 go_wp2_with fail
 refine (uh HE2).mono ?_
 rintro e w7 ⟨iv7,rfl,hp7,hk7⟩
 have HE3:=hide (emit_ok hp7 24 0 s (by simp only [List.length_append]; omega))
 have HK7:=hide ((uh HK6).trans hk7)
 clear hp7 hk7 HE2
 go_wp2_with fail
 refine (uh HE3).mono ?_
 rintro e w9 ⟨iv9,rfl,hp9,hk9⟩
 have HF : Hid (PO (.returned (.tuple #[])) w9):=by
  show PO _ _
  rw [uh HPO]
  exact ⟨iv9,rfl,hp9.same (by simp only [List.append_assoc]),(uh HK7).trans hk9⟩
 clear hp9 hk9
 go_wp2
 first | go_end0 | skip
 exact uh HF
end
end Go.Proofs.YtajabbnlbopcbaaGreatDoor
