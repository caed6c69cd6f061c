import Derived.Test.YtajabbnlbopcbaaGreatDoorTI2
import Derived.Test.YtajabbnlbopcbaaGreatDoorLX2
import Derived.Test.YtajabbnlbopcbaaGreatDoorPF3
import Derived.Deep.RegionHeld3
import Derived.Test.YtajabbnlbopcbaaGreatDoorImplName
namespace Go.Proofs.YtajabbnlbopcbaaGreatDoor
open Go.RowKit
set_option linter.unusedSimpArgs false
set_option linter.unusedVariables false
theorem ch_pre {code : List DItem} (h : wk code 0 = true) : ∀ k,k ≤ code.length → ∃ ss : List ByteArray,Ch code 0 k ss ∧ wk (code.drop k) ss.length = true ∧ (0 < k → 0 < ss.length):=by
 intro k
 induction k with
 | zero => intro _; exact ⟨[],.nil 0,by simpa using h,fun h => absurd h (Nat.lt_irrefl _)⟩
 | succ k ih =>
  intro hk
  obtain ⟨ss,hc,hw,_⟩:=ih (by omega)
  have hlt : k < code.length:=by omega
  rw [List.drop_eq_getElem_cons hlt] at hw
  simp only [wk] at hw
  have hbd:=ocI_bd code[k].op
  by_cases hneg : (ss.length : Int) < ocI code[k].op
  ·rw [if_pos hneg] at hw; cases hw
  rw [if_neg hneg] at hw
  have har : ((arN code[k].op : Nat) : Int) = ocI code[k].op:=by unfold arN; omega
  obtain ⟨m,s1,s2,rfl,hl2,c1,c2⟩:=hc.split (arN code[k].op) (by omega)
  refine ⟨s1 ++ [weave (tsT code[k]) s2],.snoc hlt c1 c2 hl2,?_,fun _ => by simp⟩
  rw [List.length_append] at hw
  have : (((s1 ++ [weave (tsT code[k]) s2]).length : Nat) : Int) = ((s1.length + s2.length : Nat) : Int) + (1 - ocI code[k].op):=by simp; omega
  rw [this]
  exact hw
theorem opd_at {code : List DItem} (h : wk code 0 = true) (k : Nat) (hk : k < code.length) : ∃ b s,Ch code b (k + 1) [s]:=by
 obtain ⟨ss,hc,_,h0⟩:=ch_pre h (k + 1) hk
 obtain ⟨m,s1,s2,_,hl2,_,c2⟩:=hc.split 1 (h0 (by omega))
 match s2,hl2 with
 | [s],_ => exact ⟨m,s,c2⟩
def Begs (w : World) (g : Nat) (xs : List DItem) : Prop:=∃ cs,BlkAt w g 3 cs ∧ ∀ i,i < xs.length → ∃ b s,Ch xs b (i + 1) [s] ∧ cs[i]? = some (.int .i64 (b : Nat))
theorem uInts : Tryz.prog.underlying 64 = some (.slice 3):=by kernel_rfl
theorem iInt : (Tryz.prog.info? 3).map (fun i => (i.zero,i.size,i.bytes)) = some (some (.int .i64 0),1,8):=by kernel_rfl
set_option maxHeartbeats 2000000 in
theorem beginnings_ok (xs : List DItem) (v : Value) (w : World) (hv : SlAt 3 32 RItem 0 w v xs) (hwk : wk xs 0 = true) (hl : xs.length ≤ 3000) :
  Calls Tryz.prog 65 #[v] w fun e w' => ∃ g,e = .returned (.slice (some ⟨g,0,none⟩) xs.length xs.length) ∧ w.heap.size ≤ g ∧ Begs w' g xs ∧ Below w.heap.size w w':=by
 obtain ⟨a,cap,rfl,_,hn,hx⟩:=hv
 unfold Len at hn
 have HX:=hide hx
 have HW:=hide hwk
 clear hx hwk
 go_enter Tryz.func65,Tryz.ntmps65
 go_wp2_with (at_make; go_must (refine wpList_make_row w rfl _ _ 64 rfl 3 _ _ uInts iInt (by decide) _ xs.length rfl rfl rfl (by omega) ?_))
 intro wA cs0 hrow0 hsz0 hbA
 have HR0:=hide hrow0
 have HS0:=hide hsz0
 have HBA:=hide hbA
 have hsA:=hbA.size
 clear hrow0 hsz0 hbA
 go_wp2
 go_loopg [12] xs.length (fun gh i wr => ∃ (k : Nat),k ≤ xs.length ∧ gh = xs.length - k ∧ i = .int .i64 k ∧ Below w.heap.size w wr ∧
  ∃ cs,BlkAt wr w.heap.size 3 cs ∧ cs.size = xs.length ∧ ∀ i,i < k → ∃ b s,Ch xs b (i + 1) [s] ∧ cs[i]? = some (.int .i64 (b : Nat)))
 case atStart => exact ⟨0,Nat.zero_le _,by omega,rfl,uh HBA,cs0,uh HR0,uh HS0,fun i hi => absurd hi (Nat.not_lt_zero _)⟩
 case round =>
  obtain ⟨k,hk,hg,rfl,hbl,cs1,hrow,hsz,hcs1⟩:=hrel
  rename World => wN
  have HG:=hide hg
  have HROW:=hide hrow
  have HSZ:=hide hsz
  have HC1:=hide hcs1
  have hgl:=hrow.lt
  clear hg hrow hsz hcs1
  by_cases hlt : k < xs.length
  ·obtain ⟨b,o,cs,rfl,_,hb,hcs,hc,hR⟩:=uh HX k hlt
   have hc : ∀ j (hj : j < cs.length),wN.cell? ⟨b,o + k * 3 + j,none⟩ = some cs[j]:=fun j hj => by rw [hbl.cell (p:=⟨b,_,none⟩) hb]; exact hc j hj
   obtain ⟨rfl,hsn,ho,hvl⟩:=hR
   have c0:=hc 0 (by simp)
   have c1:=hc 1 (by simp)
   have c2:=hc 2 (by simp)
   simp only [Nat.mul_one,Nat.add_zero,List.getElem_cons_zero,List.getElem_cons_succ] at c0 c1 c2
   obtain ⟨b0,s0,hch0⟩:=opd_at (uh HW) k hlt
   obtain ⟨_,us,hus,hul,_⟩:=hch0.last
   have HCH0:=hide hch0
   have HUS:=hide hus
   have hbd:=ocI_bd xs[k].op
   have har : ((arN xs[k].op : Nat) : Int) = ocI xs[k].op:=by unfold arN; omega
   have HOC:=hide (fun w => operandCount_ok xs[k].op w)
   rw [← har] at HOC
   have hn3 : arN xs[k].op ≤ 3:=by omega
   clear hc hcs ho hvl hsn har hbd hch0 hus
   generalize arN xs[k].op = n at *
   generalize xs[k].op = op at *
   generalize xs[k].val = val at *
   generalize xs[k].name = nm at *
   go_wp2_with fail
   refine (uh HOC _).mono ?_
   rintro e w1 ⟨rfl,h9⟩
   have HB1 : Hid (Below wN.heap.size wN w1):=by
    subst h9
    exact (Below.refl _ _).alloc (Nat.le_refl _) _
   have hs1:=(uh HB1).size
   have HR1:=hide ((uh HROW).below (uh HB1) hgl)
   clear h9 HOC
   go_wp2
   go_loopg [6,21] n (fun gh bg i wr => ∃ (j m : Nat) (u1 u2 : List ByteArray),j ≤ n ∧ gh = n - j ∧ i = .int .i64 j ∧ bg = .int .i64 m ∧ us = u1 ++ u2 ∧ u2.length = j ∧ Ch xs b0 m u1 ∧ m ≤ k ∧ wr = w1)
   case atStart => exact ⟨0,k,us,[],Nat.zero_le _,by omega,rfl,rfl,by simp,rfl,uh HUS,Nat.le_refl _,rfl⟩
   case round =>
    obtain ⟨j,m,u1,u2,hj,hgj,rfl,rfl,hsp,hu2,hch,hmk,rfl⟩:=hrel
    have HGJ:=hide hgj
    have hul1 : u1.length + u2.length = n:=by rw [← List.length_append,← hsp]; exact hul
    have HSP:=hide hsp
    have HCH:=hide hch
    clear hgj hsp hch
    by_cases hjn : j < n
    ·obtain ⟨m1,v1,v2,e1,hv2,d1,d2⟩:=(uh HCH).split 1 (by omega)
     obtain ⟨_,q,_,_,_,hq,_,_,_,_,_⟩:=d2.snoc_inv (n:=0) hv2
     subst hq
     have HD1:=hide d1
     have hm1:=d2.le
     obtain ⟨b2,s2,hb2,hcell⟩:=uh HC1 q (by omega)
     have hmm : b2 = m1:=(Ch.one _ _ _ _ _ hb2 d2 (by rw [hv2]; rfl)).1
     subst hmm
     have cq:=(uh HR1).cell hcell
     have HE1 : Hid (us = v1 ++ (v2 ++ u2)):=by
      show us = v1 ++ (v2 ++ u2)
      rw [uh HSP,e1,List.append_assoc]
     clear e1 d1 d2 hb2 hcell
     go_wp2
     go_roundg (n - (j + 1))
     case measure => have:=uh HGJ; omega
     case rel => exact ⟨j + 1,b2,v1,v2 ++ u2,by omega,rfl,by go_num,rfl,uh HE1,by rw [List.length_append]; omega,uh HD1,by omega,rfl⟩
    ·have e0 : u1 = []:=List.eq_nil_of_length_eq_zero (by omega)
     subst e0
     have hm : b0 = m:=(Ch.one _ _ _ _ _ (uh HCH) (.nil m) rfl).1
     subst hm
     have hks : k < cs1.size:=by rw [uh HSZ]; exact hlt
     have ck:=(uh HR1).cell (i:=k) (v:=cs1[k]) (by simp [hks])
     have fk:=(uh HR1).free k
     have HRZ : Hid (∀ i,i < k + 1 → ∃ b s,Ch xs b (i + 1) [s] ∧ (cs1.setIfInBounds k (.int .i64 (b0 : Nat)))[i]? = some (.int .i64 (b : Nat))):=by
      show ∀ i,i < k + 1 → ∃ b s,Ch xs b (i + 1) [s] ∧ (cs1.setIfInBounds k (.int .i64 (b0 : Nat)))[i]? = some (.int .i64 (b : Nat))
      intro i hi
      by_cases hik : i = k
      ·subst hik
       exact ⟨b0,s0,uh HCH0,by simp [hks]⟩
      ·obtain ⟨b3,s3,h3,h4⟩:=uh HC1 i (by omega)
       exact ⟨b3,s3,h3,by rw [Array.getElem?_setIfInBounds_ne (by omega)]; exact h4⟩
     generalize cs1[k] = old at *
     go_wp2
     go_roundg (xs.length - (k + 1))
     case measure => have:=uh HG; omega
     case rel => exact ⟨k + 1,by omega,rfl,by go_num,((uh HB1).mono hbl.size |> hbl.trans).setCell (Nat.le_refl _) _,_,(uh HR1).set k _,by simp [uh HSZ],uh HRZ⟩
  ·have e : k = xs.length:=by omega
   subst e
   go_wp2
   go_ret
   exact ⟨_,rfl,Nat.le_refl _,⟨cs1,uh HROW,uh HC1⟩,hbl⟩
end Go.Proofs.YtajabbnlbopcbaaGreatDoor
namespace Go.Proofs.YtajabbnlbopcbaaGreatDoor
open Go.RowKit
open Go.Shelf
set_option linter.unusedSimpArgs false
set_option linter.unusedVariables false
structure St (w0 : World) (b : Nat) (s : ByteArray) (w : World) : Prop where
 old : Below w0.heap.size w0 w
 bld : Lib.IsBuilderF 47 5 w0.heap.size b (Lib.strCells s) w
abbrev BKeeps (b : Nat) (w w' : World) : Prop:=Lib.OthersKept 5 (some b) w w'
theorem strCells_app (s t : ByteArray) : Lib.strCells (s ++ t) = Lib.strCells s ++ Lib.strCells t:=by
 simp [Lib.strCells,ByteArray.data_append]
theorem kept_below {b : Nat} {w w' : World} (h : Below w.heap.size w w') : BKeeps b w w':=by
 intro k o hk _ _
 rw [h.block k (Array.getElem?_eq_some_iff.1 hk).1]
 exact hk
theorem bldAt_below {B b : Nat} {p : Value} {bs : List Value} {w w' : World} (h : Lib.BuilderAtF 47 5 B b p bs w) (hb : Below w.heap.size w w') : Lib.BuilderAtF 47 5 B b p bs w':=by
 have hk : ∀ k o,w.heap[k]? = some o → w'.heap[k]? = some o:=fun k o ho => (hb.block k (Array.getElem?_eq_some_iff.1 ho).1).trans ho
 obtain ⟨h1,v,h2,⟨h3,h4⟩,h5⟩:=h
 refine ⟨h1,v,hk _ _ h2,⟨h3,?_⟩,h5⟩
 rcases h4 with h4 | ⟨g,cap,cur,fz,q1,q2,q3,q4⟩
 ·exact .inl h4
 ·exact .inr ⟨g,cap,cur,fz,q1,q2,hk _ _ q3,q4⟩
theorem St.on {w0 w w' : World} {b : Nat} {s : ByteArray} (h : St w0 b s w) (hb : Below w.heap.size w w') : St w0 b s w' :=
 ⟨h.old.trans (hb.mono h.old.size),h.bld.elim (fun x => .inl (bldAt_below x hb)) (fun x => .inr (bldAt_below x hb))⟩
theorem St.blk {w0 w : World} {b : Nat} {s : ByteArray} (h : St w0 b s w) : ∃ p v,BlkAt w b 47 #[p,v]:=by
 rcases h.bld with ⟨_,v,h2,_⟩ | ⟨_,v,h2,_⟩
 ·exact ⟨_,v,h2⟩
 ·exact ⟨_,v,h2⟩
theorem BlkAt.kept {w0 w w' : World} {b g : Nat} {s : ByteArray} {e : TypeId} {cs : Array Value} (h : BlkAt w g e cs) (hs : St w0 b s w) (hk : BKeeps b w w') (he : e ≠ 5 ∧ e ≠ 47) : BlkAt w' g e cs:=by
 obtain ⟨p,v,hb⟩:=hs.blk
 refine hk g _ h (fun hgb => ?_) (fun c fz hc => ?_)
 ·obtain rfl:=Option.some.inj hgb
  unfold BlkAt at h hb
  rw [h] at hb
  injection hb with hb
  injection hb with _ hb _
  exact he.2 hb
 ·injection hc with _ hc _
  exact he.1 hc
theorem writeString_ok {w0 w : World} {b : Nat} {s : ByteArray} (t : ByteArray) (h : St w0 b s w) (hlen : s.size + t.size ≤ 140737488355328) :
  Calls Tryz.prog 25 #[.pointer (some ⟨b,0,none⟩),.string t] w fun e w' => e = .returned (.tuple #[.int .i64 t.size,.nilIface]) ∧ St w0 b (s ++ t) w' ∧ BKeeps b w w':=by
 refine Calls.mono (Any.Builder_WriteString_k { Tryz.lays156 with } Tryz.Builder_Extra_156 w0.heap.size b (Lib.strCells s) t w h.bld (by rw [Lib.strCells_length]; exact hlen) h.old.size) ?_
 rintro e w' ⟨rfl,h1,h2,h3⟩
 exact ⟨rfl,⟨h.old.trans h2,.inr (by rw [strCells_app]; exact h1)⟩,h3⟩
theorem weave_go (ts us : List ByteArray) (k : Nat) (hk : k < us.length) (ht : k < ts.length) : weave (ts.drop k) (us.drop k) = ts[k] ++ (us[k] ++ weave (ts.drop (k + 1)) (us.drop (k + 1))):=by
 rw [List.drop_eq_getElem_cons hk,List.drop_eq_getElem_cons ht]
 rfl
theorem weave_end (ts us : List ByteArray) (ht : ts.length = us.length + 1) : weave (ts.drop us.length) (us.drop us.length) = ts[us.length]:=by
 rw [List.drop_eq_getElem_cons (show us.length < ts.length by omega),List.drop_length]
 rfl
theorem Begs.kept {w0 w w' : World} {b g : Nat} {s : ByteArray} {xs : List DItem} (h : Begs w g xs) (hs : St w0 b s w) (hk : BKeeps b w w') : Begs w' g xs:=by
 obtain ⟨cs,h1,h2⟩:=h
 exact ⟨cs,h1.kept hs hk (by decide),h2⟩
theorem textsAt_cell {w : World} {g : Nat} {ts : List ByteArray} (h : TextsAt w g ts) (i : Nat) (hi : i < ts.length) : w.cell? ⟨g,i,none⟩ = some (.string ts[i]):=by
 unfold TextsAt at h
 simp [World.cell?,h,hi]
set_option maxRecDepth 20000 in
set_option maxHeartbeats 8000000 in
theorem writePart_ok (w0 : World) (b : Nat) (hE : Env w0) (xs : List DItem) (v : Value) (hv : SlAt 3 32 RItem 0 w0 v xs) (hit : ∀ t,t ∈ xs → itB t = true) (hl : xs.length ≤ 3000) (g : Nat) :
  ∀ (last : Nat) (b0 : Nat) (t : ByteArray) (w : World) (s : ByteArray),Ch xs b0 (last + 1) [t] → St w0 b s w → Begs w g xs → s.size + t.size ≤ 140737488355328 →
  Calls Tryz.prog 64 #[.pointer (some ⟨b,0,none⟩),v,.slice (some ⟨g,0,none⟩) xs.length xs.length,.int .i64 last] w fun e w' => e = .returned (.tuple #[]) ∧ St w0 b (s ++ t) w' ∧ BKeeps b w w':=by
 intro last
 induction last using Nat.strongRecOn with
 | _ last ih =>
  intro b0 t w s hch hst hbg hsz
  obtain ⟨hlt,us,hus,hul,htw⟩:=hch.last
  have HIH:=hide ih
  have HV:=hide hv
  obtain ⟨a,cap,rfl,_,hn,hx⟩:=hv
  unfold Len at hn
  obtain ⟨bb,oo,cs,rfl,_,hbb,hcs,hc0,hR⟩:=hx last hlt
  have hc : ∀ j (hj : j < cs.length),w.cell? ⟨bb,oo + last * 3 + j,none⟩ = some cs[j]:=fun j hj => by rw [hst.old.cell (p:=⟨bb,_,none⟩) hbb]; exact hc0 j hj
  obtain ⟨rfl,hsn,ho,hvl⟩:=hR
  have c0:=hc 0 (by simp)
  have c1:=hc 1 (by simp)
  have c2:=hc 2 (by simp)
  simp only [Nat.mul_one,Nat.add_zero,List.getElem_cons_zero,List.getElem_cons_succ] at c0 c1 c2
  have hop:=((it_iff xs[last]).1 (hit _ (List.getElem_mem hlt))).1
  have hlenT:=tsT_length xs[last] (by omega)
  have HC:=hide (textsAround_ok xs[last] (hit _ (List.getElem_mem hlt)) w (hE.below hst.old hE.three))
  have hn3 : arN xs[last].op ≤ 3:=by have:=ocI_bd xs[last].op; unfold arN; omega
  rw [← hul] at hlenT hn3
  unfold TextsOut at HC
  have HST:=hide hst
  have HBG:=hide hbg
  have HSZ:=hide hsz
  have HUS:=hide hus
  have HTW:=hide htw
  have hw0:=hst.old.size
  clear hc hc0 hcs hsn ho hvl hx hch hst hbg hsz hus htw ih hop hul hit
  generalize htsd : tsT xs[last] = ts at *
  clear htsd
  generalize xs[last].op = op at *
  generalize xs[last].val = val at *
  generalize xs[last].name = nm at *
  go_enter Tryz.func64,Tryz.ntmps64
  go_wp2_with fail
  refine (uh HC).mono ?_
  rintro e w1 ⟨g1,cap1,rfl,hg1,htx1,hb1⟩
  have HTX1:=hide htx1
  have HB1:=hide hb1
  have hs1:=hb1.size
  clear htx1 hb1 HC
  rw [hlenT]
  go_wp2_with (at_make; go_must (refine wpList_make_row w1 rfl _ _ 64 rfl 3 _ _ uInts iInt (by decide) _ us.length rfl rfl (by go_num) (by omega) ?_))
  intro w2 cs2 hrow2 hsz2 hb2
  have HR2:=hide hrow2
  have HS2:=hide hsz2
  have HB2:=hide hb2
  have hgw:=(uh HBG)
  obtain ⟨csb,hbg1,hbg2⟩:=uh HBG
  have hglt:=hbg1.lt
  have hne : g ≠ w1.heap.size:=by omega
  have HG1:=hide hbg1
  have HG2:=hide hbg2
  have hg1lt : g1 < w1.heap.size:=(Array.getElem?_eq_some_iff.1 (uh HTX1)).1
  clear hrow2 hsz2 hb2 hbg1 hbg2 hgw
  go_wp2
  go_loopg [10,11] us.length (fun gh en ii wr => ∃ (r m : Nat) (u1 u2 : List ByteArray),r ≤ us.length ∧ gh = r ∧ ii = .int .i64 ((r : Nat) - 1 : Int) ∧ en = .int .i64 ((m : Nat) - 1 : Int) ∧ us = u1 ++ u2 ∧ u1.length = r ∧ Ch xs b0 m u1 ∧ m ≤ last ∧ Below w1.heap.size w1 wr ∧
   ∃ cs,BlkAt wr w1.heap.size 3 cs ∧ cs.size = us.length ∧ ∀ p,r ≤ p → (hp : p < us.length) → ∃ q bq : Nat,cs[p]? = some (.int .i64 (q : Nat)) ∧ q < last ∧ Ch xs bq (q + 1) [us[p]])
  case atStart => exact ⟨us.length,last,us,[],Nat.le_refl _,rfl,by go_num,by go_num,by simp,rfl,uh HUS,Nat.le_refl _,uh HB2,cs2,uh HR2,uh HS2,fun p h1 h2 => by omega⟩
  case round =>
   obtain ⟨r,m,u1,u2,hr,hg,rfl,rfl,hsp,hu1,hch,hml,hbl,cs,hrow,hsz,hcs⟩:=hrel
   rename World => wN
   have HG:=hide hg
   have HSP:=hide hsp
   have HCH:=hide hch
   have HBL:=hide hbl
   have HROW:=hide hrow
   have HCS:=hide hcs
   clear hg hsp hch hbl hrow hcs
   have hw1N:=(uh HBL).size
   have HWN : Hid (Below w.heap.size w wN):=(uh HB1).trans ((uh HBL).mono hs1)
   by_cases hr0 : r = 0
   ·subst hr0
    have e0 : u1 = []:=List.eq_nil_of_length_eq_zero hu1
    subst e0
    have HSTN:=hide ((uh HST).on (uh HWN))
    have HTXN : Hid (TextsAt wN g1 ts):=((uh HBL).block g1 hg1lt).trans (uh HTX1)
    have HGN:=hide ((uh HG1).below (uh HWN) hglt)
    have HKN : Hid (BKeeps b w wN):=kept_below (uh HWN)
    have HP0 : Hid (t = ByteArray.empty ++ weave (ts.drop 0) (us.drop 0)):=by
     show t = ByteArray.empty ++ weave (ts.drop 0) (us.drop 0)
     rw [ba_nil',List.drop_zero,List.drop_zero]
     exact uh HTW
    clear hu1 HSP HCH HG
    go_wp2
    go_loopg [43] us.length (fun gh i wr => ∃ (k : Nat) (p : ByteArray),k ≤ us.length ∧ gh = us.length - k ∧ i = .int .i64 k ∧ t = p ++ weave (ts.drop k) (us.drop k) ∧ St w0 b (s ++ p) wr ∧ BKeeps b wN wr)
    case atStart => exact ⟨0,ByteArray.empty,Nat.zero_le _,by omega,rfl,uh HP0,by rw [ba_nil]; exact uh HSTN,Lib.OthersKept.refl _ _ _⟩
    case round =>
     obtain ⟨k,p,hk,hg,rfl,htp,hstk,hkp⟩:=hrel
     rename World => wK
     have HG:=hide hg
     have HTP:=hide htp
     have HSTK:=hide hstk
     have HKP:=hide hkp
     clear hg htp hstk hkp
     have HRK:=hide ((uh HROW).kept (uh HSTN) (uh HKP) (by decide))
     have HGK : Hid (Begs wK g xs):=⟨csb,(uh HGN).kept (uh HSTN) (uh HKP) (by decide),uh HG2⟩
     have HTK : Hid (TextsAt wK g1 ts):=BlkAt.kept (w:=wN) (uh HTXN) (uh HSTN) (uh HKP) (by decide)
     have htk : k < ts.length:=by omega
     have ct:=textsAt_cell (uh HTK) k htk
     by_cases hlt2 : k < us.length
     ·obtain ⟨q,bq,hq1,hq2,hq3⟩:=uh HCS k (Nat.zero_le _) hlt2
      have cq:=(uh HRK).cell hq1
      have HW:=hide (weave_go ts us k hlt2 htk)
      have hz:=congrArg ByteArray.size (uh HTP)
      rw [uh HW] at hz
      simp only [ba_size] at hz
      have hz0:=uh HSZ
      have HC1:=hide (writeString_ok ts[k] (uh HSTK) (by rw [ba_size]; omega))
      have HC2 : Hid (∀ w2,St w0 b (s ++ p ++ ts[k]) w2 → Begs w2 g xs → _):=fun w2 h1 h2 => uh HIH q hq2 bq us[k] w2 (s ++ p ++ ts[k]) hq3 h1 h2 (by simp only [ba_size]; omega)
      have HT2 : Hid (t = (p ++ (ts[k] ++ us[k])) ++ weave (ts.drop (k + 1)) (us.drop (k + 1))):=by
       show t = (p ++ (ts[k] ++ us[k])) ++ weave (ts.drop (k + 1)) (us.drop (k + 1))
       rw [uh HTP,uh HW]
       simp only [ba_assoc]
      have HA : Hid (s ++ (p ++ (ts[k] ++ us[k])) = s ++ p ++ ts[k] ++ us[k]):=by
       show s ++ (p ++ (ts[k] ++ us[k])) = s ++ p ++ ts[k] ++ us[k]
       simp only [ba_assoc]
      clear hz hz0 HW hq1 hq3 HTP
      generalize hgt : ts[k] = tk at *
      generalize hgu : us[k] = uk at *
      clear hgt hgu
      go_wp2_with fail
      refine (uh HC1).mono ?_
      rintro e w5 ⟨rfl,hst5,hk5⟩
      have HST5:=hide hst5
      have HK5:=hide hk5
      have HC3:=hide (uh HC2 w5 hst5 ((uh HGK).kept (uh HSTK) hk5))
      clear hst5 hk5
      go_wp2_with fail
      refine (uh HC3).mono ?_
      rintro e w6 ⟨rfl,hst6,hk6⟩
      have HST6:=hide hst6
      have HK6:=hide hk6
      clear hst6 hk6
      go_wp2
      go_roundg (us.length - (k + 1))
      case measure => have:=uh HG; omega
      case rel => exact ⟨k + 1,p ++ (tk ++ uk),by omega,rfl,by go_num,uh HT2,by rw [uh HA]; exact uh HST6,((uh HKP).trans (uh HK5)).trans (uh HK6)⟩
     ·have e : k = us.length:=by omega
      subst e
      have HW:=hide (weave_end ts us hlenT)
      have hz:=congrArg ByteArray.size (uh HTP)
      rw [uh HW] at hz
      simp only [ba_size] at hz
      have hz0:=uh HSZ
      have HC1:=hide (writeString_ok ts[us.length] (uh HSTK) (by rw [ba_size]; omega))
      have HT2 : Hid (s ++ t = s ++ p ++ ts[us.length]):=by
       show s ++ t = s ++ p ++ ts[us.length]
       rw [uh HTP,uh HW]
       simp only [ba_assoc]
      clear hz hz0 HW HTP
      generalize hgt : ts[us.length] = tk at *
      clear hgt
      go_wp2_with fail
      refine (uh HC1).mono ?_
      rintro e w5 ⟨rfl,hst5,hk5⟩
      have HST5:=hide hst5
      have HK5:=hide hk5
      clear hst5 hk5
      go_wp2
      go_end0
      exact ⟨rfl,by rw [uh HT2]; exact uh HST5,((uh HKN).trans (uh HKP)).trans (uh HK5)⟩
   ·obtain ⟨p,rfl⟩ : ∃ p,r = p + 1:=⟨r - 1,by omega⟩
    obtain ⟨m1,v1,v2,e1,hv2,d1,d2⟩:=(uh HCH).split 1 (by omega)
    obtain ⟨_,q,_,_,_,hq,_,_,_,_,_⟩:=d2.snoc_inv (n:=0) hv2
    subst hq
    match v2,hv2 with
    | [x2],_ =>
     have hm1:=d2.le
     have HD1:=hide d1
     have HD2:=hide d2
     have hv1 : v1.length = p:=by have:=congrArg List.length e1; simp at this; omega
     obtain ⟨b2,s2,hbb2,hcell⟩:=uh HG2 q (by omega)
     have hmm : b2 = m1:=(Ch.one _ _ _ _ _ hbb2 (uh HD2) rfl).1
     subst hmm
     have HGN:=hide ((uh HG1).below (uh HWN) hglt)
     have cq:=(uh HGN).cell hcell
     have hps : p < cs.size:=by rw [hsz]; omega
     have cp:=(uh HROW).cell (i:=p) (v:=cs[p]) (by simp [hps])
     have fp:=(uh HROW).free p
     have hpu : p < us.length:=by omega
     have HE1 : Hid (us = v1 ++ ([x2] ++ u2)):=by
      show us = v1 ++ ([x2] ++ u2)
      rw [uh HSP,e1,List.append_assoc]
     have hxu : us[p] = x2:=by
      have : us[p]? = some x2:=by
       rw [uh HE1,List.getElem?_append_right (by omega),hv1]
       simp
      simpa [hpu] using this
     have HCZ : Hid (∀ p',p ≤ p' → (hp : p' < us.length) → ∃ q' bq : Nat,(cs.setIfInBounds p (.int .i64 (q : Nat)))[p']? = some (.int .i64 (q' : Nat)) ∧ q' < last ∧ Ch xs bq (q' + 1) [us[p']]):=by
      show ∀ p',p ≤ p' → (hp : p' < us.length) → ∃ q' bq : Nat,(cs.setIfInBounds p (.int .i64 (q : Nat)))[p']? = some (.int .i64 (q' : Nat)) ∧ q' < last ∧ Ch xs bq (q' + 1) [us[p']]
      intro p' h1 h2
      by_cases hpp : p' = p
      ·subst hpp
       exact ⟨q,b2,by simp [hps],by omega,by rw [hxu]; exact uh HD2⟩
      ·obtain ⟨q',bq,r1,r2,r3⟩:=uh HCS p' (by omega) h2
       exact ⟨q',bq,by rw [Array.getElem?_setIfInBounds_ne (by omega)]; exact r1,r2,r3⟩
     have HSS : Hid ((cs.setIfInBounds p (.int .i64 (q : Nat))).size = us.length):=by
      show (cs.setIfInBounds p (.int .i64 (q : Nat))).size = us.length
      rw [Array.size_setIfInBounds]
      exact hsz
     clear e1 d1 d2 hbb2 hcell hxu HCH HSP
     generalize cs[p] = old at *
     go_wp2
     go_roundg p
     case measure => have:=uh HG; omega
     case rel => exact ⟨p,b2,v1,[x2] ++ u2,by omega,rfl,by go_num,by go_num,uh HE1,hv1,uh HD1,by omega,(uh HBL).setCell (Nat.le_refl _) _,_,(uh HROW).set p _,uh HSS,uh HCZ⟩
end Go.Proofs.YtajabbnlbopcbaaGreatDoor
namespace Go.Proofs.YtajabbnlbopcbaaGreatDoor
open Go.RowKit
set_option linter.unusedSimpArgs false
set_option linter.unusedVariables false
theorem SlAt.el {α : Type} {sz byt lo : Nat} {R : Nat → World → List Value → α → Prop} {w : World} {a : Option Addr} {n cap : Nat} {xs : List α} (h : SlAt sz byt R lo w (.slice a n cap) xs) :
  ∀ i (h : i < xs.length),∃ b o cs,a = some ⟨b,o,none⟩ ∧ lo ≤ b ∧ b < w.heap.size ∧ cs.length = sz ∧ (∀ j (hj : j < cs.length),w.cell? ⟨b,o + i * sz + j,none⟩ = some cs[j]) ∧ R lo w cs xs[i]:=by
 obtain ⟨a',c',he,_,_,hx⟩:=h
 simp only [Value.slice.injEq] at he
 obtain ⟨rfl,_,_⟩:=he
 exact hx
set_option maxHeartbeats 1000000 in
theorem writeCode_ok (w0 : World) (b : Nat) (hE : Env w0) (xs : List DItem) (v : Value) (hv : SlAt 3 32 RItem 0 w0 v xs) (hcd : cdB xs = true) (w : World) (s : ByteArray) (hst : St w0 b s w) (hsz : s.size ≤ 100000000000000) :
  Calls Tryz.prog 42 #[.pointer (some ⟨b,0,none⟩),v] w fun e w' => e = .returned (.tuple #[]) ∧ St w0 b (s ++ cdT xs) w' ∧ BKeeps b w w':=by
 have hl:=cd_len hcd
 have hwk : wk xs 0 = true:=by simp only [cdB,Bool.and_eq_true] at hcd; exact hcd.2
 have hz:=cdT_size hcd
 have HC1:=hide (beginnings_ok xs v w (hv.stays RItem_kept hst.old) hwk hl.2)
 have HC2 : Hid (∀ g w1,St w0 b s w1 → Begs w1 g xs → Calls Tryz.prog 64 #[.pointer (some ⟨b,0,none⟩),v,.slice (some ⟨g,0,none⟩) xs.length xs.length,.int .i64 ((xs.length : Int) - 1)] w1 fun e w' => e = .returned (.tuple #[]) ∧ St w0 b (s ++ cdT xs) w' ∧ BKeeps b w1 w'):=by
  intro g w1 h1 h2
  have hc:=cdT_ch hcd
  obtain ⟨l,hll⟩ : ∃ l,xs.length = l + 1:=⟨xs.length - 1,by omega⟩
  have e1 : ((xs.length : Int) - 1) = (l : Nat):=by omega
  rw [e1]
  rw [hll] at hc
  exact writePart_ok w0 b hE xs v hv (cd_it hcd) hl.2 g l 0 (cdT xs) w1 s hc h1 h2 (by omega)
 have HST:=hide hst
 obtain ⟨a,cap,rfl⟩:=hv.shape
 clear hv hst hcd hwk
 go_enter Tryz.func42,Tryz.ntmps42
 go_wp2_with fail
 refine (uh HC1).mono ?_
 rintro e w1 ⟨g,rfl,hg,hbg,hb1⟩
 have HB1:=hide hb1
 have HC3:=hide (uh HC2 g w1 ((uh HST).on hb1) hbg)
 clear hb1 hbg HC2 HC1
 go_wp2_with fail
 refine (uh HC3).mono ?_
 rintro e w2 ⟨rfl,hst2,hk2⟩
 go_wp2
 go_end0
 exact ⟨rfl,hst2,(kept_below (uh HB1)).trans hk2⟩
theorem cd_args {e : DEq} (he : eqB e = true) (h0 : ¬ e.call.size = 0) : ∀ x,x ∈ e.args.map cdT → x.size ≤ 1000000:=fun x hx => by
 obtain ⟨y,hy,rfl⟩:=List.mem_map.1 hx
 have:=cdT_size ((eq_call he h0).2 y hy)
 omega
set_option maxHeartbeats 2000000 in
theorem writeCall_ok (w0 : World) (b : Nat) (hE : Env w0) (e : DEq) (he : eqB e = true) (h0 : ¬ e.call.size = 0) (la ca : Option Addr) (ln lc cn cc : Nat) (v : Value) (ha : SlAt 1 24 RItems 0 w0 v e.args)
  (w : World) (s : ByteArray) (hst : St w0 b s w) (hsz : s.size ≤ 90000000000000) :
  Calls Tryz.prog 43 #[.pointer (some ⟨b,0,none⟩),.agg #[.slice la ln lc,.slice ca cn cc,.string e.call,v]] w fun r w' => r = .returned (.tuple #[]) ∧ St w0 b (s ++ (e.call ++ (Lop ++ (jnT Lcomma (e.args.map cdT) ++ Lcl)))) w' ∧ BKeeps b w w':=by
 have hla:=((eq_iff e).1 he).1.2.2
 have HCD:=hide (eq_call he h0).2
 have HJ:=hide (jn_small Lcomma (e.args.map cdT) (by decide) (cd_args he h0) (by rw [List.length_map]; omega))
 have hnm:=name_size _ (eq_call he h0).1
 have HJ1:=hide (fun k hk hk1 => jnT_step Lcomma (e.args.map cdT) k hk hk1)
 have HJ0 : Hid (∀ (h : 0 < (e.args.map cdT).length),jnT Lcomma ((e.args.map cdT).take 1) = (e.args.map cdT)[0]):=fun h => by
  rw [List.take_succ_eq_append_getElem h,List.take_zero,List.nil_append,jnT_one]
 have HJE : Hid (jnT Lcomma ((e.args.map cdT).take e.args.length) = jnT Lcomma (e.args.map cdT)):=by
  show jnT Lcomma ((e.args.map cdT).take e.args.length) = jnT Lcomma (e.args.map cdT)
  rw [List.take_of_length_le (by simp)]
 have HJZ : Hid (jnT Lcomma ((e.args.map cdT).take 0) = ByteArray.empty):=by
  show jnT Lcomma ((e.args.map cdT).take 0) = ByteArray.empty
  rw [List.take_zero,jnT_nil]
 have hJL : (e.args.map cdT).length = e.args.length:=List.length_map ..
 have hge : ∀ k (h : k < e.args.length),(e.args.map cdT)[k]'(by rw [hJL]; exact h) = cdT e.args[k]:=fun k h => by simp
 have HGE:=hide hge
 obtain ⟨aa,ac,rfl,_,hn,hx⟩:=ha
 unfold Len at hn
 have HX:=hide hx
 have P0 : Hid (Below w.heap.size w (w.alloc (.cells #[.slice la ln lc,.slice ca cn cc,.string e.call,.slice aa e.args.length ac] 58))):=(Below.refl _ _).alloc (Nat.le_refl _) _
 have HBX:=hide (blk_box w #[.slice la ln lc,.slice ca cn cc,.string e.call,.slice aa e.args.length ac] 58)
 have HST0:=hide (hst.on (uh P0))
 have zop : Lop.size = 1:=rfl
 have zcl : Lcl.size = 1:=rfl
 have zco : Lcomma.size = 2:=rfl
 have HC1:=hide (writeString_ok (e.call ++ Lop) (uh HST0) (by rw [ba_size]; omega))
 have HRS : Hid (s ++ (e.call ++ (Lop ++ (jnT Lcomma (e.args.map cdT) ++ Lcl))) = s ++ (e.call ++ Lop) ++ jnT Lcomma (e.args.map cdT) ++ Lcl):=by
  show s ++ (e.call ++ (Lop ++ (jnT Lcomma (e.args.map cdT) ++ Lcl))) = s ++ (e.call ++ Lop) ++ jnT Lcomma (e.args.map cdT) ++ Lcl
  simp only [ba_assoc]
 have hS0 : (s ++ (e.call ++ Lop)).size ≤ 90000000000100:=by simp only [ba_size]; omega
 clear hx hge hst he h0
 generalize e.call = call at *
 generalize hags : e.args = args at *
 clear hags
 generalize args.map cdT = ys at *
 rw [uh HRS]
 clear HRS
 go_enter Tryz.func43,Tryz.ntmps43
 go_wp2_with fail
 refine (uh HC1).mono ?_
 rintro r w1 ⟨rfl,hst1,hk1⟩
 have HST1:=hide hst1
 have HK1:=hide hk1
 have cA:=((uh HBX).kept (uh HST0) hk1 (by decide)).cell (i:=3) (v:=.slice aa args.length ac) rfl
 clear hst1 hk1 HC1
 generalize hSQ : s ++ (call ++ Lop) = S at *
 have HSQ:=hide hSQ
 clear hSQ
 go_wp2
 go_loopg [14] args.length (fun g i wr => ∃ (k : Nat),k ≤ args.length ∧ g = args.length - k ∧ i = .int .i64 k ∧ St w0 b (S ++ jnT Lcomma (ys.take k)) wr ∧ BKeeps b w1 wr)
 case atStart => exact ⟨0,Nat.zero_le _,by omega,rfl,by rw [uh HJZ,ba_nil]; exact uh HST1,Lib.OthersKept.refl _ _ _⟩
 case round =>
  obtain ⟨k,hk,hg,rfl,hstk,hkk⟩:=hrel
  rename World => wK
  have HG:=hide hg
  have HSTK:=hide hstk
  have HKK:=hide hkk
  clear hg hstk hkk
  have hzk:=uh HJ k
  by_cases hlt : k < args.length
  ·obtain ⟨bb,oo,cs,rfl,_,hbb,hcs,hc0,hR⟩:=uh HX k hlt
   have hc : ∀ j (hj : j < cs.length),wK.cell? ⟨bb,oo + k * 1 + j,none⟩ = some cs[j]:=fun j hj => by rw [(uh HSTK).old.cell (p:=⟨bb,_,none⟩) hbb]; exact hc0 j hj
   obtain ⟨vv,rfl,hS⟩:=hR
   have c0:=hc 0 (by simp)
   simp only [Nat.mul_one,Nat.add_zero,List.getElem_cons_zero,List.getElem_cons_succ] at c0
   have hcd:=uh HCD args[k] (List.getElem_mem hlt)
   have hzc:=cdT_size hcd
   have HCC : Hid (∀ w2 s2,St w0 b s2 w2 → s2.size ≤ 100000000000000 → Calls Tryz.prog 42 #[.pointer (some ⟨b,0,none⟩),vv] w2 fun e w' => e = .returned (.tuple #[]) ∧ St w0 b (s2 ++ cdT args[k]) w' ∧ BKeeps b w2 w'):=fun w2 s2 h1 h2 => writeCode_ok w0 b hE args[k] vv hS hcd w2 s2 h1 h2
   have hek:=uh HGE k hlt
   by_cases hk0 : k = 0
   ·subst hk0
    have HT:=hide (uh HJ0 (by rw [hJL]; exact hlt))
    rw [hek] at HT
    have HC2:=hide (uh HCC wK _ (uh HSTK) (by rw [ba_size]; omega))
    rw [uh HJZ,ba_nil] at HC2
    obtain ⟨xa,xc,rfl⟩:=hS.shape
    clear hc hc0 hcs hS hcd hek HCC
    generalize cdT args[0] = tx at *
    generalize args[0].length = nx at *
    simp only [Nat.add_zero,Nat.zero_mul] at c0
    go_wp2_with fail
    refine (uh HC2).mono ?_
    rintro r w3 ⟨rfl,hst3,hk3⟩
    go_wp2
    go_roundg (args.length - 1)
    case measure => have:=uh HG; omega
    case rel => exact ⟨1,by omega,rfl,by go_num,by rw [uh HT]; exact hst3,(uh HKK).trans hk3⟩
   ·have HT:=hide (uh HJ1 k (by rw [hJL]; exact hlt) (by omega))
    rw [hek] at HT
    have HC2:=hide (writeString_ok Lcomma (uh HSTK) (by rw [ba_size]; omega))
    have HC3 : Hid (∀ w2,St w0 b (S ++ jnT Lcomma (ys.take k) ++ Lcomma) w2 → _):=fun w2 h => uh HCC w2 _ h (by simp only [ba_size]; omega)
    have HAS : Hid (S ++ jnT Lcomma (ys.take (k + 1)) = S ++ jnT Lcomma (ys.take k) ++ Lcomma ++ cdT args[k]):=by
     show S ++ jnT Lcomma (ys.take (k + 1)) = S ++ jnT Lcomma (ys.take k) ++ Lcomma ++ cdT args[k]
     rw [uh HT]
     simp only [ba_assoc]
    obtain ⟨xa,xc,rfl⟩:=hS.shape
    clear hc hc0 hcs hS hcd hek HCC HT
    generalize cdT args[k] = tx at *
    generalize args[k].length = nx at *
    generalize jnT Lcomma (ys.take k) = jk at *
    go_wp2_with fail
    refine (uh HC2).mono ?_
    rintro r w3 ⟨rfl,hst3,hk3⟩
    have HK3:=hide hk3
    have HC4:=hide (uh HC3 w3 hst3)
    clear hst3 hk3
    go_wp2_with fail
    refine (uh HC4).mono ?_
    rintro r w4 ⟨rfl,hst4,hk4⟩
    go_wp2
    go_roundg (args.length - (k + 1))
    case measure => have:=uh HG; omega
    case rel => exact ⟨k + 1,by omega,rfl,by go_num,by rw [uh HAS]; exact hst4,((uh HKK).trans (uh HK3)).trans hk4⟩
  ·have e : k = args.length:=by omega
   subst e
   rw [uh HJE] at HSTK hzk
   have HC2:=hide (writeString_ok Lcl (uh HSTK) (by rw [ba_size]; omega))
   generalize hJQ : jnT Lcomma ys = jk at *
   have HJQ:=hide hJQ
   clear hJQ
   go_wp2_with fail
   refine (uh HC2).mono ?_
   rintro r w3 ⟨rfl,hst3,hk3⟩
   go_wp2
   go_end0
   exact ⟨rfl,by rw [uh HSQ,uh HJQ]; exact hst3,(((kept_below (uh P0)).trans (uh HK1)).trans (uh HKK)).trans hk3⟩
end Go.Proofs.YtajabbnlbopcbaaGreatDoor
