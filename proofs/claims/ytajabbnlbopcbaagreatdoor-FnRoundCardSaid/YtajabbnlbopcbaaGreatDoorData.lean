import Derived.WalkKit
import Derived.WalkSpells
import Derived.Deep.OwnRows
import Derived.Test.YtajabbnlbopcbaaGreatDoorProg
import Derived.WalkLawsBesides
import Derived.Deep.LoopGhost
namespace Go.Proofs.YtajabbnlbopcbaaGreatDoor
open Go.RowKit
theorem hide {p : Prop} (h : p) : Hid p:=h
theorem uh {p : Prop} (h : Hid p) : p:=h
structure DCond where
 name : ByteArray
 on : Bool
structure DVar where
 name : ByteArray
 type : Int
 clock : List DCond
structure DItem where
 op : Int
 val : Int
 name : ByteArray
structure DEq where
 lhs : List ByteArray
 code : List DItem
 call : ByteArray
 args : List (List DItem)
structure DNode where
 name : ByteArray
 ins : List DVar
 outs : List DVar
 vars : List DVar
 eqs : List DEq
def I64 (x : Int) : Prop:=-9223372036854775808 ≤ x ∧ x ≤ 9223372036854775807
def Len (n : Nat) : Prop:=n ≤ 140737488355328
def Kept (lo hi : Nat) (w w' : World) : Prop:=w.heap.size ≤ w'.heap.size ∧ ∀ k,lo ≤ k → k < hi → w'.heap[k]? = w.heap[k]?
theorem Kept.of_below {lo B : Nat} {w w' : World} (h : Below B w w') : Kept lo B w w':=⟨h.size,fun k _ hk => h.block k hk⟩
theorem Kept.cell {lo hi : Nat} {w w' : World} (h : Kept lo hi w w') {p : Addr} (h1 : lo ≤ p.block) (h2 : p.block < hi) : w'.cell? p = w.cell? p:=World.cell?_of_block (w:=w) (h.2 p.block h1 h2)
theorem Kept.refl (lo hi : Nat) (w : World) : Kept lo hi w w:=⟨Nat.le_refl _,fun _ _ _ => rfl⟩
def SlAt {α : Type} (sz byt : Nat) (R : Nat → World → List Value → α → Prop) (lo : Nat) (w : World) (v : Value) (xs : List α) : Prop :=
 ∃ a cap,v = .slice a xs.length cap ∧ (Len (xs.length * byt) ∧ xs.length ≤ cap) ∧ Len xs.length ∧ ∀ i (h : i < xs.length),∃ b o cs,a = some ⟨b,o,none⟩ ∧ lo ≤ b ∧ b < w.heap.size ∧ cs.length = sz ∧
  (∀ j (hj : j < cs.length),w.cell? ⟨b,o + i * sz + j,none⟩ = some cs[j]) ∧ R lo w cs xs[i]
def KeptBy {α : Type} (R : Nat → World → List Value → α → Prop) : Prop:=∀ lo w w' cs x,Kept lo w.heap.size w w' → R lo w cs x → R lo w' cs x
def Stays {α : Type} (R : Nat → World → List Value → α → Prop) : Prop:=∀ lo w w' cs x,Below w.heap.size w w' → R lo w cs x → R lo w' cs x
def Lowers {α : Type} (R : Nat → World → List Value → α → Prop) : Prop:=∀ lo lo' w cs x,lo' ≤ lo → R lo w cs x → R lo' w cs x
theorem KeptBy.stays {α : Type} {R : Nat → World → List Value → α → Prop} (h : KeptBy R) : Stays R:=fun _ _ _ _ _ hb hr => h _ _ _ _ _ (Kept.of_below hb) hr
theorem SlAt.kept {α : Type} {sz byt lo : Nat} {R : Nat → World → List Value → α → Prop} (hR : KeptBy R) {w w' : World} {v : Value} {xs : List α} (hb : Kept lo w.heap.size w w') (h : SlAt sz byt R lo w v xs) : SlAt sz byt R lo w' v xs:=by
 obtain ⟨a,cap,rfl,hl,hl2,h⟩:=h
 refine ⟨a,cap,rfl,hl,hl2,fun i hi => ?_⟩
 obtain ⟨b,o,cs,ha,hlo,hbl,hcs,hc,hr⟩:=h i hi
 exact ⟨b,o,cs,ha,hlo,Nat.lt_of_lt_of_le hbl hb.1,hcs,fun j hj => by rw [hb.cell (p:=⟨b,_,none⟩) hlo hbl]; exact hc j hj,hR _ _ _ _ _ hb hr⟩
theorem SlAt.shape {α : Type} {sz byt lo : Nat} {R : Nat → World → List Value → α → Prop} {w : World} {v : Value} {xs : List α} (h : SlAt sz byt R lo w v xs) : ∃ a cap,v = .slice a xs.length cap:=by
 obtain ⟨a,cap,hv,_⟩:=h
 exact ⟨a,cap,hv⟩
theorem SlAt.stays {α : Type} {sz byt lo : Nat} {R : Nat → World → List Value → α → Prop} (hR : KeptBy R) {w w' : World} {v : Value} {xs : List α} (hb : Below w.heap.size w w') (h : SlAt sz byt R lo w v xs) : SlAt sz byt R lo w' v xs:=h.kept hR (Kept.of_below hb)
theorem SlAt.lower {α : Type} {sz byt lo lo' : Nat} {R : Nat → World → List Value → α → Prop} (hR : Lowers R) {w : World} {v : Value} {xs : List α} (hl : lo' ≤ lo) (h : SlAt sz byt R lo w v xs) : SlAt sz byt R lo' w v xs:=by
 obtain ⟨a,cap,rfl,hl1,hl2,h⟩:=h
 refine ⟨a,cap,rfl,hl1,hl2,fun i hi => ?_⟩
 obtain ⟨b,o,cs,ha,hlo,hbl,hcs,hc,hr⟩:=h i hi
 exact ⟨b,o,cs,ha,Nat.le_trans hl hlo,hbl,hcs,hc,hR _ _ _ _ _ hl hr⟩
def RStr (_ : Nat) (_ : World) (cs : List Value) (s : ByteArray) : Prop:=cs = [.string s] ∧ Len s.size
def RCond (_ : Nat) (_ : World) (cs : List Value) (c : DCond) : Prop:=cs = [.string c.name,.bool c.on] ∧ Len c.name.size
def RVar (lo : Nat) (w : World) (cs : List Value) (v : DVar) : Prop:=∃ cl,cs = [.string v.name,.int .i64 v.type,cl] ∧ Len v.name.size ∧ I64 v.type ∧ SlAt 2 24 RCond lo w cl v.clock
def RItem (_ : Nat) (_ : World) (cs : List Value) (t : DItem) : Prop:=cs = [.int .i64 t.op,.int .i64 t.val,.string t.name] ∧ Len t.name.size ∧ I64 t.op ∧ I64 t.val
def RItems (lo : Nat) (w : World) (cs : List Value) (l : List DItem) : Prop:=∃ v,cs = [v] ∧ SlAt 3 32 RItem lo w v l
def REq (lo : Nat) (w : World) (cs : List Value) (e : DEq) : Prop:=∃ l c a,cs = [l,c,.string e.call,a] ∧ Len e.call.size ∧ SlAt 1 16 RStr lo w l e.lhs ∧ SlAt 3 32 RItem lo w c e.code ∧ SlAt 1 24 RItems lo w a e.args
def RNode (lo : Nat) (w : World) (cs : List Value) (n : DNode) : Prop:=∃ i o v e,cs = [.string n.name,i,o,v,e] ∧ Len n.name.size ∧ SlAt 3 48 RVar lo w i n.ins ∧ SlAt 3 48 RVar lo w o n.outs ∧ SlAt 3 48 RVar lo w v n.vars ∧ SlAt 4 88 REq lo w e n.eqs
theorem RStr_kept : KeptBy RStr:=fun _ _ _ _ _ _ h => h
theorem RCond_kept : KeptBy RCond:=fun _ _ _ _ _ _ h => h
theorem RItem_kept : KeptBy RItem:=fun _ _ _ _ _ _ h => h
theorem RVar_kept : KeptBy RVar:=fun _ _ _ _ _ hb ⟨cl,h1,h2,h3,h4⟩ => ⟨cl,h1,h2,h3,h4.kept RCond_kept hb⟩
theorem RItems_kept : KeptBy RItems:=fun _ _ _ _ _ hb ⟨v,h1,h2⟩ => ⟨v,h1,h2.kept RItem_kept hb⟩
theorem REq_kept : KeptBy REq:=fun _ _ _ _ _ hb ⟨l,c,a,h1,h2,h3,h4,h5⟩ => ⟨l,c,a,h1,h2,h3.kept RStr_kept hb,h4.kept RItem_kept hb,h5.kept RItems_kept hb⟩
theorem RNode_kept : KeptBy RNode:=fun _ _ _ _ _ hb ⟨i,o,v,e,h1,h2,h3,h4,h5,h6⟩ => ⟨i,o,v,e,h1,h2,h3.kept RVar_kept hb,h4.kept RVar_kept hb,h5.kept RVar_kept hb,h6.kept REq_kept hb⟩
theorem RStr_lowers : Lowers RStr:=fun _ _ _ _ _ _ h => h
theorem RCond_lowers : Lowers RCond:=fun _ _ _ _ _ _ h => h
theorem RItem_lowers : Lowers RItem:=fun _ _ _ _ _ _ h => h
theorem RVar_lowers : Lowers RVar:=fun _ _ _ _ _ hb ⟨cl,h1,h2,h3,h4⟩ => ⟨cl,h1,h2,h3,h4.lower RCond_lowers hb⟩
theorem RItems_lowers : Lowers RItems:=fun _ _ _ _ _ hb ⟨v,h1,h2⟩ => ⟨v,h1,h2.lower RItem_lowers hb⟩
theorem REq_lowers : Lowers REq:=fun _ _ _ _ _ hb ⟨l,c,a,h1,h2,h3,h4,h5⟩ => ⟨l,c,a,h1,h2,h3.lower RStr_lowers hb,h4.lower RItem_lowers hb,h5.lower RItems_lowers hb⟩
theorem RNode_lowers : Lowers RNode:=fun _ _ _ _ _ hb ⟨i,o,v,e,h1,h2,h3,h4,h5,h6⟩ => ⟨i,o,v,e,h1,h2,h3.lower RVar_lowers hb,h4.lower RVar_lowers hb,h5.lower RVar_lowers hb,h6.lower REq_lowers hb⟩
theorem bcell {W w1 : World} (hb : Below W.heap.size W w1) : (∀ b o,b < W.heap.size → w1.cell? ⟨b,o,none⟩ = W.cell? ⟨b,o,none⟩) ∧ (∀ b o,b < W.heap.size → w1.frozen? ⟨b,o,none⟩ = W.frozen? ⟨b,o,none⟩) :=
 ⟨fun b o h => hb.cell (p:=⟨b,o,none⟩) h,fun b o h => hb.frozen (p:=⟨b,o,none⟩) h⟩
end Go.Proofs.YtajabbnlbopcbaaGreatDoor
namespace Go.Proofs.YtajabbnlbopcbaaGreatDoor
open Go.RowKit
set_option linter.unusedSimpArgs false
set_option linter.unusedVariables false
def letB (c : Int) : Bool:=decide ((97 ≤ c ∧ c ≤ 122) ∨ (65 ≤ c ∧ c ≤ 90))
def digB (c : Int) : Bool:=decide (48 ≤ c ∧ c ≤ 57)
def wordB (c : Int) : Bool:=letB c || digB c || c == 95
theorem ret_bool {a b : Bool} (h : a = b) : Ending.returned (.bool a) = .returned (.bool b):=by rw [h]
set_option maxHeartbeats 400000 in
theorem isLetter_ok (c : Int) (w : World) (h0 : 0 ≤ c) (h1 : c ≤ 255) :
  Calls Tryz.prog 67 #[.int .u8 c] w fun e w' => e = .returned (.bool (letB c)) ∧ w' = w:=by
 go_enter Tryz.func67,Tryz.ntmps67
 go_wp2
 all_goals
  go_ret
  refine ⟨ret_bool ?_,rfl⟩
  unfold letB
  rw [Bool.eq_iff_iff]
  simp
  try omega
set_option maxHeartbeats 400000 in
theorem isDigit_ok (c : Int) (w : World) (h0 : 0 ≤ c) (h1 : c ≤ 255) :
  Calls Tryz.prog 69 #[.int .u8 c] w fun e w' => e = .returned (.bool (digB c)) ∧ w' = w:=by
 go_enter Tryz.func69,Tryz.ntmps69
 go_wp2
 all_goals
  go_ret
  refine ⟨ret_bool ?_,rfl⟩
  unfold digB
  rw [Bool.eq_iff_iff]
  simp
  try omega
set_option maxHeartbeats 400000 in
theorem isWordByte_ok (c : Int) (w : World) (h0 : 0 ≤ c) (h1 : c ≤ 255) :
  Calls Tryz.prog 85 #[.int .u8 c] w fun e w' => e = .returned (.bool (wordB c)) ∧ w' = w:=by
 cases hl : letB c <;> cases hd : digB c
 all_goals
  go_enter Tryz.func85,Tryz.ntmps85
  go_wp2_with (first | (go_at_call 67; refine (isLetter_ok _ _ h0 h1).mono ?_; rintro e w' ⟨rfl,rfl⟩; rw [hl]) | (go_at_call 69; refine (isDigit_ok _ _ h0 h1).mono ?_; rintro e w' ⟨rfl,rfl⟩; rw [hd]))
  go_ret
  refine ⟨ret_bool ?_,rfl⟩
  simp [wordB,hl,hd]
def byt (s : ByteArray) (i : Nat) : Int:=if h : i < s.size then (s[i].toNat : Int) else 0
theorem byt_lt {s : ByteArray} {i : Nat} (h : i < s.size) : byt s i = (s[i].toNat : Int):=by simp [byt,h]
theorem u8_bd (x : UInt8) : 0 ≤ (x.toNat : Int) ∧ (x.toNat : Int) ≤ 255:=by have:=x.toNat_lt; omega
def allB (p : Nat → Bool) (i n : Nat) : Bool:=decide (∀ j,j < n → i ≤ j → p j = true)
theorem allB_true {p : Nat → Bool} {i n : Nat} (h : ∀ j,j < n → i ≤ j → p j = true) : allB p i n = true:=by simpa [allB] using h
def freshB (s : ByteArray) : Bool:=decide (2 ≤ s.size ∧ s.size ≤ 10) && decide (byt s 0 = 36) && !decide (byt s 1 = 48) && allB (fun i => digB (byt s i)) 1 s.size
end Go.Proofs.YtajabbnlbopcbaaGreatDoor
namespace Go.Proofs.YtajabbnlbopcbaaGreatDoor
open Go.RowKit
end Go.Proofs.YtajabbnlbopcbaaGreatDoor
namespace Go.Proofs.YtajabbnlbopcbaaGreatDoor
open Go.RowKit
set_option linter.unusedSimpArgs false
set_option linter.unusedVariables false
def kws : List ByteArray:=[⟨#[110,111,100,101]⟩,⟨#[114,101,116,117,114,110,115]⟩,⟨#[118,97,114]⟩,⟨#[108,101,116]⟩,⟨#[116,101,108]⟩,⟨#[105,110,116]⟩,⟨#[98,111,111,108]⟩,⟨#[119,104,101,110]⟩,⟨#[119,104,101,110,111,116]⟩,⟨#[105,102]⟩,⟨#[116,104,101,110]⟩,⟨#[101,108,115,101]⟩,⟨#[102,98,121]⟩,⟨#[109,101,114,103,101]⟩,⟨#[116,114,117,101]⟩,⟨#[102,97,108,115,101]⟩,⟨#[97,110,100]⟩,⟨#[111,114]⟩,⟨#[120,111,114]⟩,⟨#[110,111,116]⟩,⟨#[109,111,100]⟩]
def kwB (s : ByteArray) : Bool:=s.toList == [110,111,100,101] || s.toList == [114,101,116,117,114,110,115] || s.toList == [118,97,114] || s.toList == [108,101,116] || s.toList == [116,101,108] || s.toList == [105,110,116] || s.toList == [98,111,111,108] || s.toList == [119,104,101,110] || s.toList == [119,104,101,110,111,116] || s.toList == [105,102] || s.toList == [116,104,101,110] || s.toList == [101,108,115,101] || s.toList == [102,98,121] || s.toList == [109,101,114,103,101] || s.toList == [116,114,117,101] || s.toList == [102,97,108,115,101] || s.toList == [97,110,100] || s.toList == [111,114] || s.toList == [120,111,114] || s.toList == [110,111,116] || s.toList == [109,111,100]
def inB (l : List ByteArray) (s : ByteArray) : Bool:=l.any (fun x => x.toList == s.toList)
set_option maxHeartbeats 1000000 in
theorem isKeyword_ok (s : ByteArray) (w : World) :
  Calls Tryz.prog 83 #[.string s] w fun e w' => e = .returned (.bool (kwB s)) ∧ w' = w:=by
 go_enter Tryz.func83,Tryz.ntmps83
 go_wp2
 all_goals
  go_ret
  refine ⟨ret_bool ?_,rfl⟩
  simp_all [kwB]
theorem inB_kws (s : ByteArray) : inB kws s = kwB s:=by
 simp only [inB,kws,kwB,List.any_cons,List.any_nil,ByteArray.toList_eq,Bool.or_false,BEq.comm (a:=s.data.toList),Bool.or_assoc]
def plainB (s : ByteArray) : Bool:=decide (1 ≤ s.size ∧ s.size ≤ 40) && letB (byt s 0) && !kwB s && allB (fun i => wordB (byt s i)) 0 s.size
def Ans (v : Value) (w : World) (e : Ending) (w' : World) : Prop:=e = .returned v ∧ Below w.heap.size w w'
def nameB (s : ByteArray) : Bool:=plainB s || freshB s
theorem typeOK_ok (t : Int) (w : World) : Calls Tryz.prog 54 #[.int .i64 t] w (fun e w' => e = .returned (.bool (decide (t = 1 ∨ t = 2))) ∧ w' = w):=by
 by_cases h1 : t = 1
 ·subst h1
  go_enter Tryz.func54,Tryz.ntmps54
  go_wp2
  go_ret
  exact ⟨rfl,rfl⟩
 ·by_cases h2 : t = 2
  ·subst h2
   go_enter Tryz.func54,Tryz.ntmps54
   go_wp2
   go_ret
   exact ⟨rfl,rfl⟩
  ·rw [decide_eq_false (fun h => by rcases h with h | h; exact h1 h; exact h2 h)]
   have b1 : (t == 1) = false:=by rw [beq_eq_false_iff_ne]; exact h1
   have b2 : (t == 2) = false:=by rw [beq_eq_false_iff_ne]; exact h2
   go_enter Tryz.func54,Tryz.ntmps54
   go_wp2
   go_ret
   exact ⟨rfl,rfl⟩
end Go.Proofs.YtajabbnlbopcbaaGreatDoor
