import Derived.Test.YtfeejeflmcapoaaGreatDoorData
import Derived.Lib.ItoaNum
import Derived.Lib.Join
import Derived.Test.YtfeejeflmcapoaaGreatDoorProg
import Derived.WalkLawsBesides
import Derived.Deep.LoopGhost
set_option linter.unusedSimpArgs false
set_option linter.unusedVariables false
set_option maxHeartbeats 1000000
namespace Go.Proofs.YtfeejeflmcapoaaGreatDoor
open Go.RowKit
theorem a7a (a b:UInt8):((a.toNat:Int) == (b.toNat:Int))=(a == b):=by
 rw[Oc,Fg,Fg,Int.ofNat_inj,UInt8.toNat_inj]
theorem aym (s:dh) (h:1<=s.size):((s.extract 0 1).toList == [36])=(qy s 0 == 36):=by
 rw[Qi (show 0<s.size from h),ByteArray.toList_eq]
 have e:(s.extract 0 1).data.toList=[s[0]'h]:=by
  match s,h with
  | ⟨⟨a::t⟩⟩,_=>simp;rfl
 rw[e];have:=a7a (s[0]'h) 36;rw[show ((36:UInt8).toNat:Int)=36 from rfl] at this;rw[this,Oc,Fg,Fg,List.cons.injEq];simp
def tl (s:dh):dh:=s.extract 1 s.size
theorem ake (s:dh):(tl s).size=s.size-1:=by simp[tl]
theorem anc (s:dh) (i:Nat) (h:i<s.size-1):qy (tl s) i=qy s (i+1):=by
 have h1:i<(tl s).size:=by rw[ake];exact h
 rw[Qi h1,Qi (show i+1<s.size by omega)];congr 2;simp only[tl,ByteArray.getElem_eq_getElem_data,ByteArray.data_extract,Array.getElem_extract,Nat.add_comm]
def Nr (s:dh):Bool:=decide (1<=s.size)&&(qy s 0 == 36)
theorem afr (s:dh) (w:bf) (hs:Len s.size) :
  Calls Tryz.prog 165 #[.string s,.string ⟨#[36]⟩] w fun e w'=>e=.returned (.bool (Nr s))∧w'=w:=by
 unfold Len at hs
 by_cases h1:1<=s.size
 ·have e:Nr s=((s.extract 0 1).toList == [36]):=by rw[aym s h1];simp[Nr,h1]
  rw[e];clear e;go_enter Tryz.func165,Tryz.ntmps165;go_wp2;go_ret;exact⟨rfl,rfl⟩
 ·have e:Nr s=false:=by simp[Nr,h1]
  rw[e];clear e;go_enter Tryz.func165,Tryz.ntmps165;go_wp2;go_ret;exact⟨rfl,rfl⟩
theorem ajb (s:dh) (w:bf) (hs:Len s.size) :
  Calls Tryz.prog 140 #[.string s,.string ⟨#[36]⟩] w fun e w'=>e=.returned (.tuple #[.string (if Nr s=true then tl s else s),.bool (Nr s)])∧w'=w:=by
 have HS:=hide hs;unfold Len at hs
 cases hst:Nr s
 ·rw[ay (by decide)]
  go_enter Tryz.func140,Tryz.ntmps140;go_wp2_with (go_at_call 165;refine(afr s _ (uh HS)).mono ?_;rintro e w' ⟨rfl,rfl⟩;rw[hst])
  go_ret2
  exact⟨rfl,rfl⟩
 ·rw[gu rfl]
  have h1:1<=s.size:=by
   simp[Nr] at hst;have:=hst.1;omega
  have h1':(1:Int)<=(s.size:Int):=by omega
  have HT:Hid (tl s=s.extract 1 s.size):=rfl;go_enter Tryz.func140,Tryz.ntmps140;go_wp2_with (go_at_call 165;refine(afr s _ (uh HS)).mono ?_;rintro e w' ⟨rfl,rfl⟩;rw[hst])
  go_ret2
  exact⟨rfl,rfl⟩
theorem Vj (s:dh) (w:bf) (hs:Len s.size) :
  Calls Tryz.prog 118 #[.string s,.string ⟨#[36]⟩] w fun e w'=>e=.returned (.tuple #[.string (if Nr s=true then tl s else s),.bool (Nr s)])∧w'=w:=by
 cases hst:Nr s
 ·rw[ay (by decide)]
  go_enter Tryz.func118,Tryz.ntmps118;go_wp2_with (go_at_call 140;refine(ajb s _ hs).mono ?_;rintro e w' ⟨rfl,rfl⟩;rw[hst,ay (by decide)])
  go_ret2
  exact⟨rfl,rfl⟩
 ·rw[gu rfl]
  go_enter Tryz.func118,Tryz.ntmps118;go_wp2_with (go_at_call 140;refine(ajb s _ hs).mono ?_;rintro e w' ⟨rfl,rfl⟩;rw[hst,gu rfl])
  go_ret2
  exact⟨rfl,rfl⟩
theorem avd (s:dh) (h:Nr s=true):I4 s=(decide (1<=(tl s).size∧(tl s).size<=9)&&!decide (qy (tl s) 0=48)&&(Zo (tl s)).all Kt):=by
 have hs1:1<=s.size:=by simp[Nr] at h;have:=h.1;omega
 have hb0:qy s 0=36:=by simp[Nr] at h;exact h.2
 rw[aqt,ake]
 by_cases h2:2<=s.size
 ·have e1:qy (tl s) 0=qy s 1:=anc s 0 (by omega)
  have e2:allB (fun i=>Kt (qy (tl s) i)) 0 (s.size-1)=allB (fun i=>Kt (qy s i)) 1 s.size:=by
   unfold allB;rw[decide_eq_decide];constructor
   ·intro hh j hj h1j
    have:=hh (j-1) (by omega) (jg _);simp only at this;rw[anc s (j-1) (by omega),show j-1+1=j from by omega] at this;exact this
   ·intro hh j hj _
    simp only;rw[anc s j hj];exact hh (j+1) (by omega) (by omega)
  have e3:decide (2<=s.size∧s.size<=10)=decide (1<=s.size-1∧s.size-1<=9):=by rw[decide_eq_decide];omega
  rw[e1,e2];simp only[I4,hb0,e3];simp
 ·have e3:decide (2<=s.size∧s.size<=10)=false:=by rw[Nl];omega
  have e4:decide (1<=s.size-1∧s.size-1<=9)=false:=by rw[Nl];omega
  simp only[I4,e3,e4,Bc]
theorem ave (s:dh) (h:Nr s=false):I4 s=false:=by
 unfold Nr at h;unfold I4
 by_cases h1:1<=s.size
 ·simp only[h1,decide_true,Ar] at h
  have:¬qy s 0=36:=by intro hh;rw[hh] at h;exact absurd h (by decide)
  simp[this]
 ·have:decide (2<=s.size∧s.size<=10)=false:=by rw[Nl];omega
  rw[this];simp
theorem asi (s:dh) (w:bf) (hs:Len s.size) :
  Calls Tryz.prog 143 #[.string s] w (Ans (.bool (I4 s)) w):=by
 cases hst:Nr s
 ·rw[ave s hst]
  go_enter Tryz.func143,Tryz.ntmps143;go_wp2_with (go_at_call 118;refine(Vj s _ hs).mono ?_;rintro e w' ⟨rfl,rfl⟩;rw[hst,ay (by decide)]);go_ret;exact⟨rfl,gy _ _⟩
 rw[avd s hst];have hls:Len (tl s).size:=by unfold Len at *;rw[ake];omega
 generalize htl:tl s=d at *;have HT:=hide htl;have HL:=hide hls;clear htl;unfold Len at hls
 by_cases h1:d.size<1
 ·have e:(decide (1<=d.size∧d.size<=9)&&!decide (qy d 0=48)&&(Zo d).all Kt)=false:=by
   have:decide (1<=d.size∧d.size<=9)=false:=by rw[Nl];omega
   simp only[this,Bc]
  rw[e];have d1:decide ((d.size:Int)<1)=true:=by simp;omega
  clear e;go_enter Tryz.func143,Tryz.ntmps143;go_wp2_with (go_at_call 118;refine(Vj s _ hs).mono ?_;rintro e w' ⟨rfl,rfl⟩;rw[hst,gu rfl,uh HT]);go_ret;exact⟨rfl,gy _ _⟩
 have d1:decide ((d.size:Int)<1)=false:=by simp;omega
 by_cases h2:9<d.size
 ·have e:(decide (1<=d.size∧d.size<=9)&&!decide (qy d 0=48)&&(Zo d).all Kt)=false:=by
   have:decide (1<=d.size∧d.size<=9)=false:=by rw[Nl];omega
   simp only[this,Bc]
  rw[e];have d2:decide (9<(d.size:Int))=true:=by simp;omega
  clear e;go_enter Tryz.func143,Tryz.ntmps143;go_wp2_with (go_at_call 118;refine(Vj s _ hs).mono ?_;rintro e w' ⟨rfl,rfl⟩;rw[hst,gu rfl,uh HT]);go_ret;exact⟨rfl,gy _ _⟩
 have d2:decide (9<(d.size:Int))=false:=by simp;omega
 have g0:0<d.size:=by omega
 have b0:=Qi g0
 by_cases h3:(d[0].toNat:Int)=48
 ·have e:(decide (1<=d.size∧d.size<=9)&&!decide (qy d 0=48)&&(Zo d).all Kt)=false:=by simp[b0,h3]
  rw[e];have d3:((d[0].toNat:Int) == 48)=true:=by rw[Fg];exact h3
  clear e b0 h3;go_enter Tryz.func143,Tryz.ntmps143;go_wp2_with (go_at_call 118;refine(Vj s _ hs).mono ?_;rintro e w' ⟨rfl,rfl⟩;rw[hst,gu rfl,uh HT]);go_ret;exact⟨rfl,gy _ _⟩
 have d3:((d[0].toNat:Int) == 48)=false:=by rw[su];exact h3
 have e:(decide (1<=d.size∧d.size<=9)&&!decide (qy d 0=48)&&(Zo d).all Kt)=(Zo d).all Kt:=by
  have:1<=d.size∧d.size<=9:=by omega
  simp[b0,h3,this]
 rw[e];clear e b0 h3;have hcv:=fun w=>Lib.run_convert_string_bytes (P:=Tryz.prog) w 9 64 5 d Tryz.underlying9 Tryz.underlying64 Tryz.underlying5
 go_enter Tryz.func143,Tryz.ntmps143;go_wp2_with fail;refine(Vj s _ hs).mono ?_;rintro e w' ⟨rfl,rfl⟩;rw[hst,gu rfl,uh HT];go_wp2_with fail;refine(aeg Kt a6z (Zo d) _ _ (bytes_at _ _ d _ (uh HL) (grownCap_ge _ _ _ _))).mono ?_;rintro e w1 ⟨rfl,hb⟩;go_wp2;go_ret;exact⟨rfl,(aaq _ _ _).trans (hb.mono (aaq _ _ _).size)⟩
theorem afq (s:dh) (w:bf) (hs:Len s.size) :
  Calls Tryz.prog 125 #[.string s] w (Ans (.bool (nameB s)) w):=by
 cases hp:Gg s
 ·have e:nameB s=I4 s:=by simp[nameB,hp]
  rw[e];clear e;go_enter Tryz.func125,Tryz.ntmps125;go_wp2_with fail;refine(alq s _ hs).mono ?_;rintro e w1 ⟨rfl,hb⟩;rw[hp];go_wp2_with fail;refine(asi s _ hs).mono ?_;rintro e w2 ⟨rfl,hb2⟩;go_wp2;go_ret;exact⟨rfl,hb.trans (hb2.mono hb.size)⟩
 ·have e:nameB s=true:=by simp[nameB,hp]
  rw[e];clear e;go_enter Tryz.func125,Tryz.ntmps125;go_wp2_with fail;refine(alq s _ hs).mono ?_;rintro e w1 ⟨rfl,hb⟩;rw[hp];go_wp2;go_ret;exact⟨rfl,hb⟩
def U5 (op:Int):Int:=if (1<=op∧op<=3)∨op=25 then 0 else if op=4∨op=5∨op=21∨op=22∨op=23 then 1 else if (6<=op∧op<=19)∨op=24 then 2 else if op=20 then 3 else -1
def ocI (op:Int):Int:=if op=1∨op=2∨op=3∨op=25 then 0 else if op=4∨op=5∨op=21∨op=22∨op=23 then 1 else if op=20 then 3 else 2
def loI (op:Int):Int:=if op=21 then -2147483647 else 0
def Y0 (op:Int):Int:=if op=1∨op=21 then 2147483647 else if op=2∨op=22∨op=23 then 1 else 0
theorem Td {a b:Int} (h:a=b):Ending.returned (.int .i64 a)=.returned (.int .i64 b):=by rw[h]
theorem ayn {a b c d:Int} (h:a=b) (g:c=d):Ending.returned (.tuple #[.int .i64 a,.int .i64 c])=.returned (.tuple #[.int .i64 b,.int .i64 d]):=by rw[h,g]
theorem a7b (op:Int) : -1<=U5 op∧U5 op<=3:=by unfold U5;split<;>(try split)<;>(try split)<;>(try split)<;>omega
theorem a7c (op:Int):0<=ocI op∧ocI op<=3:=by unfold ocI;split<;>(try split)<;>(try split)<;>omega
theorem asj (op:Int) (w:bf) (h:I64 op) :
  Calls Tryz.prog 177 #[.int .i64 op] w fun e w'=>e=.returned (.int .i64 (U5 op))∧w'=w:=by
 unfold I64 at h;go_enter Tryz.func177,Tryz.ntmps177;go_wp2
 all_goals
  go_ret;refine⟨Td ?_,rfl⟩
  simp_all [U5]
  try omega
theorem ajc (op:Int) (w:bf) :
  Calls Tryz.prog 193 #[.int .i64 op] w fun e w'=>e=.returned (.int .i64 (ocI op))∧w'=w:=by
 go_enter Tryz.func193,Tryz.ntmps193;go_wp2
 all_goals
  go_ret;refine⟨Td ?_,rfl⟩
  simp_all [ocI]
  try omega
theorem amq (op:Int) (w:bf) :
  Calls Tryz.prog 194 #[.int .i64 op] w fun e w'=>e=.returned (.tuple #[.int .i64 (loI op),.int .i64 (Y0 op)])∧w'=w:=by
 go_enter Tryz.func194,Tryz.ntmps194;go_wp2
 all_goals
  go_ret2
  refine⟨ayn ?_ ?_,rfl⟩
  all_goals
   simp_all [loI,Y0]
   try omega
def nmB (t:ku):Bool:=if t.op=3∨t.op=23∨t.op=24 then nameB t.name else decide (t.name.size=0)
def rgB (t:ku):Bool:=decide (loI t.op<=t.val∧t.val<=Y0 t.op)
def X4 (t:ku):Bool:=nmB t&&(decide (t.op=25)||rgB t)
def itB (t:ku):Bool:=decide (1<=t.op∧t.op<=24)&&rgB t&&nmB t
theorem apz (s:dh) (h:s.size=0):nameB s=false:=by
 simp[nameB,Gg,I4,h]
theorem Ja (s:dh) (h:s.size=0):s.toList.isEmpty=true:=by
 have e:s.data.toList=[]:=Qe (by rw[Array.length_toList];exact h);rw[ByteArray.toList_eq,e];rfl
theorem J8 (s:dh) (h:s.size≠0):s.toList.isEmpty=false:=by
 cases hh:s.toList.isEmpty with
 | false=>rfl
 | true =>
  rw[List.isEmpty_iff,ByteArray.toList_eq] at hh;have:=mg List.length hh;rw[Array.length_toList] at this;exact absurd this h
theorem amr (t:ku) (w:bf) (hs:Len t.name.size) :
  Calls Tryz.prog 195 #[.agg #[.int .i64 t.op,.int .i64 t.val,.string t.name]] w (Ans (.bool (nmB t)) w):=by
 obtain⟨op,val,s⟩:=t;simp only at hs
 by_cases hn:op=3∨op=23∨op=24
 ·have e:nmB ⟨op,val,s⟩=nameB s:=by simp only[nmB];rw[gu hn]
  rw[e];clear e;rcases hn with rfl|rfl|rfl
  all_goals
   go_enter Tryz.func195,Tryz.ntmps195;go_wp2_with fail;refine(afq s _ hs).mono ?_;rintro e w1 ⟨rfl,hb⟩;go_wp2;go_ret;exact⟨rfl,((gy _ _).alloc (gq _) _).trans (hb.mono (by simp))⟩
 ·have e:nmB ⟨op,val,s⟩=s.toList.isEmpty:=by
   simp only[nmB];rw[ay hn]
   by_cases h0:s.size=0
   ·rw[Ja s h0];simpa using h0
   ·rw[J8 s h0];simpa using h0
  rw[e];clear e;have d1:(op == 3)=false:=by rw[su];omega
  have d2:(op == 23)=false:=by rw[su];omega
  have d3:(op == 24)=false:=by rw[su];omega
  clear hn;go_enter Tryz.func195,Tryz.ntmps195;go_wp2;go_ret;exact⟨rfl,(gy _ _).alloc (gq _) _⟩
theorem avf (t:ku) (w:bf) (hs:Len t.name.size) :
  Calls Tryz.prog 192 #[.agg #[.int .i64 t.op,.int .i64 t.val,.string t.name]] w (Ans (.bool (itB t)) w):=by
 have HI:=hide (fun w=>amr t w hs);have HE:Hid (itB t=(decide (1<=t.op∧t.op<=24)&&rgB t&&nmB t)):=rfl;have HR:Hid (rgB t=decide (loI t.op<=t.val∧t.val<=Y0 t.op)):=rfl;generalize itB t=res at *;generalize nmB t=nm at *;generalize rgB t=rg at *;obtain⟨op,val,s⟩:=t;simp only at hs
 by_cases h1:op<1
 ·have d1:decide (op<1)=true:=by simpa using h1
  have e:res=false:=by rw[uh HE];simp;intro;omega
  subst e;go_enter Tryz.func192,Tryz.ntmps192;go_wp2;go_ret;exact⟨rfl,(gy _ _).alloc (gq _) _⟩
 have d1:decide (op<1)=false:=by simpa using h1
 by_cases h2:24<op
 ·have d2:decide (24<op)=true:=by simpa using h2
  have e:res=false:=by rw[uh HE];simp;intro;omega
  subst e;go_enter Tryz.func192,Tryz.ntmps192;go_wp2;go_ret;exact⟨rfl,(gy _ _).alloc (gq _) _⟩
 have d2:decide (24<op)=false:=by simpa using h2
 have e:res=(rg&&nm):=by
  have hh:decide (1<=op∧op<=24)=true:=by simp;omega
  rw[uh HE];simp only[hh,Ar]
 subst e;have hr:=uh HR;simp only at hr;have HV:=hide (fun w=>amq op w);generalize loI op=lo at *;generalize Y0 op=hi at *
 by_cases h3:lo<=val∧val<=hi
 ·have e:rg=true:=by rw[hr];simpa using h3
  subst e;obtain⟨h3,h4⟩:=h3;have d3:decide (lo<=val)=true:=by simpa using h3
  have d4:decide (val<=hi)=true:=by simpa using h4
  clear hr;go_enter Tryz.func192,Tryz.ntmps192;go_wp2_with fail;refine(uh HV _).mono ?_;rintro e w1 ⟨rfl,rfl⟩;go_wp2_with fail;refine(uh HI _).mono ?_;rintro e w2 ⟨rfl,hb⟩;go_wp2;go_ret;exact⟨zu (by simp),((gy _ _).alloc (gq _) _).trans (hb.mono (by simp))⟩
 ·have e:rg=false:=by rw[hr];simpa using h3
  subst e;clear hr
  by_cases h4:lo<=val
  ·have h5:¬val<=hi:=fun h=>h3 ⟨h4,h⟩
   have d3:decide (lo<=val)=true:=by simpa using h4
   have d4:decide (val<=hi)=false:=by simpa using h5
   clear h3;go_enter Tryz.func192,Tryz.ntmps192;go_wp2_with fail;refine(uh HV _).mono ?_;rintro e w1 ⟨rfl,rfl⟩;go_wp2;go_ret;exact⟨zu (by simp),(gy _ _).alloc (gq _) _⟩
  ·have d3:decide (lo<=val)=false:=by simpa using h4
   clear h3;go_enter Tryz.func192,Tryz.ntmps192;go_wp2_with fail;refine(uh HV _).mono ?_;rintro e w1 ⟨rfl,rfl⟩;go_wp2;go_ret;exact⟨zu (by simp),(gy _ _).alloc (gq _) _⟩
theorem ap0 (t:ku) (w:bf) (hs:Len t.name.size) :
  Calls Tryz.prog 162 #[.agg #[.int .i64 t.op,.int .i64 t.val,.string t.name]] w (Ans (.bool (X4 t)) w):=by
 obtain⟨op,val,s⟩:=t;simp only at hs
 by_cases hn:op=3∨op=23∨op=24
 ·have e:X4 ⟨op,val,s⟩=(nameB s&&decide (loI op<=val∧val<=Y0 op)):=by
   have Sj:¬op=25:=by omega
   simp only[X4,nmB,rgB,Sj,decide_false,Bool.false_or];rw[gu hn]
  rw[e];clear e
  by_cases h0:s.size=0
  ·have d0:=Nc s h0
   have d0':=Ja s h0;rw[apz s h0];rcases hn with rfl|rfl|rfl
   all_goals
    go_enter Tryz.func162,Tryz.ntmps162;go_wp2;go_ret;exact⟨rfl,(gy _ _).alloc (gq _) _⟩
  ·have d0:=O8 s h0
   have d0':=J8 s h0
   cases hnm:nameB s
   ·rcases hn with rfl|rfl|rfl
    all_goals
     go_enter Tryz.func162,Tryz.ntmps162;go_wp2_with fail;refine(aci s _ hs).mono ?_;rintro e w1 ⟨rfl,hb⟩;rw[hnm];go_wp2;go_ret;exact⟨rfl,((gy _ _).alloc (gq _) _).trans (hb.mono (by simp))⟩
   ·rcases hn with rfl|rfl|rfl
    all_goals
     simp only[loI,Y0];go_enter Tryz.func162,Tryz.ntmps162;go_wp2_with fail;refine(aci s _ hs).mono ?_;rintro e w1 ⟨rfl,hb⟩;rw[hnm];obtain⟨hc1,hf1⟩:=aan hb;have hz:=hb.size;simp only[Ed] at hz hc1 hf1;have hza:w.heap.size<w1.heap.size:=by omega
     have HB:=hide (((gy w.heap.size w).alloc (gq _) _).trans (hb.mono (by simp)));clear hb hz;go_wp2
     all_goals
      go_ret;refine⟨zu ?_,uh HB⟩
      simp_all
      try omega
 ·have d1:(op == 3)=false:=by rw[su];omega
  have d2:(op == 23)=false:=by rw[su];omega
  have d3:(op == 24)=false:=by rw[su];omega
  have e:X4 ⟨op,val,s⟩=(decide (s.size=0)&&(decide (op=25)||decide (loI op<=val∧val<=Y0 op))):=by
   simp only[X4,nmB,rgB];rw[ay hn]
  rw[e];clear e
  by_cases h0:s.size=0
  ·have d0:=Nc s h0
   have d0':=Ja s h0;have e:decide (s.size=0)=true:=by simpa using h0
   rw[e];clear e h0;go_enter Tryz.func162,Tryz.ntmps162;go_wp2
   all_goals
    go_ret;refine⟨zu ?_,(gy _ _).alloc (gq _) _⟩
    simp_all [loI,Y0]
    try omega
  ·have d0:=O8 s h0
   have d0':=J8 s h0;have e:decide (s.size=0)=false:=by simpa using h0
   rw[e];clear e h0;go_enter Tryz.func162,Tryz.ntmps162;go_wp2;go_ret;exact⟨rfl,(gy _ _).alloc (gq _) _⟩
def wk:List ku->Int->Bool
 | [],r=>r == 1
 | t::ts,r=>if r<ocI t.op then false else wk ts (r+(1-ocI t.op))
def bk:List ku->Nat->Option Nat
 | ts,0=>some ts.length
 | [],_+1=>none
 | t::ts,n+1=>if U5 t.op<0 then none else bk ts (n+(U5 t.op).toNat)
def bgI (code:List ku):Int:=match bk code.reverse 1 with
 | none => -1
 | some m=>m
theorem ap1 (xs:List ku) (v:Value) (w:bf) (hv:iy 3 32 Gp 0 w v xs) :
  Calls Tryz.prog 191 #[v] w (Ans (.bool (wk xs 0)) w):=by
 obtain⟨a,cap,rfl,_,hn,hx⟩:=hv;unfold Len at hn;have HX:=hide hx;clear hx;go_enter Tryz.func191,Tryz.ntmps191;go_wp2
 go_loopg [3,9] xs.length (fun g l i wr=>∃(k:Nat) (r:Int),k<=xs.length∧g=xs.length-k∧i=.int .i64 k∧l=.int .i64 r∧0<=r∧r<=k∧wk xs 0=wk (xs.drop k) r∧Below w.heap.size w wr)
 case atStart=>exact⟨0,0,jg _,by omega,rfl,rfl,by omega,by omega,by simp,gy _ _⟩
 case round =>
  obtain⟨k,r,hk,hg,rfl,rfl,hr0,hr1,hwk,hbl⟩:=hrel;have HG:=hide hg;have HW:=hide hwk;clear hg hwk
  by_cases hlt:k<xs.length
  ·obtain⟨b,o,cs,rfl,_,hb,hcs,hc,hR⟩:=uh HX k hlt
   have hc:∀j (hj:j<cs.length),wr.cell? ⟨b,o+k*3+j,none⟩=some cs[j]:=fun j hj=>by rw[hbl.cell (p:=⟨b,_,none⟩) hb];exact hc j hj
   obtain⟨rfl,hsn,ho,hvl⟩:=hR;have c0:=hc 0 (by simp);have c1:=hc 1 (by simp);have c2:=hc 2 (by simp);simp only[jr,jh,ny,o8] at c0 c1 c2;have hd:xs.drop k=xs[k]::xs.drop (k+1):=List.drop_eq_getElem_cons hlt;have hbd:=a7c xs[k].op;have HOC:=hide (fun w=>ajc xs[k].op w)
   by_cases hneg:r<ocI xs[k].op
   ·have F:wk xs 0=false:=by rw[uh HW,hd];simp only[wk];rw[gu hneg]
    have HF:=hide F;clear F hd hc hcs ho hvl hsn;generalize xs[k].op=op at *;generalize ocI op=oc at *;go_wp2_with fail;refine(uh HOC _).mono ?_;rintro e w1 ⟨rfl,rfl⟩;go_wp2;go_ret;exact⟨zu (uh HF).symm,hbl.trans ((gy _ _).alloc hbl.size _)⟩
   ·have F:wk xs 0=wk (xs.drop (k+1)) (r+(1-ocI xs[k].op)):=by
     rw[uh HW,hd];simp only[wk];rw[ay hneg]
    have HF:=hide F;clear F hd hc hcs ho hvl hsn;generalize xs[k].op=op at *;generalize ocI op=oc at *;go_wp2_with fail;refine(uh HOC _).mono ?_;rintro e w1 ⟨rfl,rfl⟩;go_wp2
    go_roundg (xs.length-(k+1))
    case measure=>have:=uh HG;omega
    case rel=>exact⟨k+1,r+(1-oc),by omega,rfl,by go_num,rfl,by omega,by omega,uh HF,hbl.trans ((gy _ _).alloc hbl.size _)⟩
  ·have e:k=xs.length:=by omega
   have F:wk xs 0=(r == 1):=by rw[uh HW,e,List.drop_length];rfl
   have HF:=hide F;clear F;go_wp2;go_ret;exact⟨zu (uh HF).symm,hbl⟩
theorem int_eq {a b:Int} (h:a=b):Value.int .i64 a=.int .i64 b:=by rw[h]
theorem aqv (ts:List ku):bk ts 0=some ts.length:=by cases ts<;>rfl
theorem ayo (xs:List ku) (a:Nat) (h:a<xs.length):(xs.take (a+1)).reverse=xs[a]::(xs.take a).reverse:=by
 rw[Fb h,List.reverse_append];rfl
theorem ajd (xs:List ku) (v:Value) (w:bf) (hv:iy 3 32 Gp 0 w v xs) :
  Calls Tryz.prog 161 #[v,.int .i64 xs.length] w fun e w'=>e=.returned (.int .i64 (bgI xs))∧w'=w:=by
 obtain⟨a,cap,rfl,_,hn,hx⟩:=hv;unfold Len at hn;have HX:=hide hx;clear hx;go_enter Tryz.func161,Tryz.ntmps161;go_wp2
 go_loopg [5,6] (xs.length) (fun g l i wr=>∃(m n:Nat),m<=xs.length∧g=m∧l=.int .i64 m∧i=.int .i64 n∧n+3*m<=3*xs.length+1∧bk xs.reverse 1=bk (xs.take m).reverse n∧wr=w)
 case atStart=>exact⟨xs.length,1,gq _,rfl,rfl,rfl,by omega,by rw[Eb],rfl⟩
 case round =>
  obtain⟨m,n,hm,hg,rfl,rfl,hn3,hbk,rfl⟩:=hrel;have HG:=hide hg;have HB:=hide hbk;clear hg hbk
  match n with
  | 0 =>
   have F:bgI xs=m:=by
    unfold bgI;rw[uh HB,aqv];simp;omega
   have HF:=hide F;clear F;go_wp2;go_ret;exact⟨Td (uh HF).symm,rfl⟩
  | n+1 =>
   match m with
   | 0 =>
    have F:bgI xs = -1:=by
     unfold bgI;rw[uh HB];rfl
    have HF:=hide F;clear F;go_wp2;go_ret;exact⟨Td (uh HF).symm,rfl⟩
   | m+1 =>
    have hlt:m<xs.length:=by omega
    obtain⟨b,o,cs,rfl,_,hb,hcs,hc,hR⟩:=uh HX m hlt;obtain⟨rfl,hsn,ho,hvl⟩:=hR;have c0:=hc 0 (by simp);simp only[jr,jh,ny,o8] at c0;have hbd:=a7b xs[m].op;have HAR:=hide (fun w=>asj xs[m].op w ho);have hd:=uh HB;rw[ayo xs m hlt] at hd;simp only[bk] at hd
    by_cases hneg:U5 xs[m].op<0
    ·have F:bgI xs = -1:=by
      unfold bgI;rw[hd,gu hneg]
     have HF:=hide F;clear F hd hc hcs ho hvl hsn;generalize xs[m].op=op at *;generalize U5 op=ar at *;go_wp2_with fail;refine(uh HAR _).mono ?_;rintro e w1 ⟨rfl,rfl⟩;go_wp2;go_ret;exact⟨Td (uh HF).symm,rfl⟩
    ·rw[ay hneg] at hd
     have HF:=hide hd;clear hd hc hcs ho hvl hsn;generalize xs[m].op=op at *;generalize U5 op=ar at *;go_wp2_with fail;refine(uh HAR _).mono ?_;rintro e w1 ⟨rfl,rfl⟩;go_wp2_with fail;refine(uh HAR _).mono ?_;rintro e w1 ⟨rfl,rfl⟩;go_wp2
     go_roundg m
     case measure=>have:=uh HG;omega
     case rel=>exact⟨m,n+ar.toNat,by omega,rfl,by go_num,int_eq (by omega),by omega,uh HF,rfl⟩
def scM (most:Int) (code:List ku):Bool:=decide (1<=code.length∧(code.length:Int)<=most)&&bgI code == 0&&code.all X4
theorem ane (most:Int) (xs:List ku) (v:Value) (w:bf) (hv:iy 3 32 Gp 0 w v xs) :
  Calls Tryz.prog 137 #[v,.int .i64 most] w (Ans (.bool (scM most xs)) w):=by
 have HV:=hide hv;obtain⟨a,cap,rfl,_,hn,hx⟩:=hv;have HX:=hide hx;clear hx;unfold Len at hn
 by_cases h1:xs.length<1
 ·have d1:decide ((xs.length:Int)<1)=true:=by simp;omega
  have e:scM most xs=false:=by
   have:decide (1<=xs.length∧(xs.length:Int)<=most)=false:=by rw[Nl];omega
   simp only[scM,this,Bc]
  rw[e];clear e;go_enter Tryz.func137,Tryz.ntmps137;go_wp2;go_ret;exact⟨rfl,gy _ _⟩
 have d1:decide ((xs.length:Int)<1)=false:=by simp;omega
 by_cases h2:most<(xs.length:Int)
 ·have d2:decide (most<(xs.length:Int))=true:=by simp;omega
  have e:scM most xs=false:=by
   have:decide (1<=xs.length∧(xs.length:Int)<=most)=false:=by rw[Nl];omega
   simp only[scM,this,Bc]
  rw[e];clear e;go_enter Tryz.func137,Tryz.ntmps137;go_wp2;go_ret;exact⟨rfl,gy _ _⟩
 have d2:decide (most<(xs.length:Int))=false:=by simp;omega
 have hlen:decide (1<=xs.length∧(xs.length:Int)<=most)=true:=by simp;omega
 cases h3:(bgI xs == 0)
 ·have e:scM most xs=false:=by simp only[scM,h3];simp
  rw[e];clear e;have d3:(bgI xs != 0)=true:=by rw[bne,h3];rfl
  have HBG:=hide (ajd xs _ w (uh HV));generalize bgI xs=bg at *;clear hlen;go_enter Tryz.func137,Tryz.ntmps137;go_wp2_with fail;refine(uh HBG).mono ?_;rintro e w1 ⟨rfl,rfl⟩;go_wp2;go_ret;exact⟨rfl,gy _ _⟩
 ·have e:scM most xs=xs.all X4:=by simp only[scM,h3,hlen];simp
  rw[e];clear e;have d3:(bgI xs != 0)=false:=by rw[bne,h3];rfl
  have HBG:=hide (ajd xs _ w (uh HV));generalize bgI xs=bg at *;clear hlen;go_enter Tryz.func137,Tryz.ntmps137;go_wp2_with fail;refine(uh HBG).mono ?_;rintro e w ⟨rfl,rfl⟩;go_wp2
  go_loopg [25] xs.length (fun g i wr=>∃(k:Nat),k<=xs.length∧g=xs.length-k∧i=.int .i64 k∧Below w.heap.size w wr∧∀j (h:j<xs.length),j<k->X4 xs[j]=true)
  case atStart=>exact⟨0,jg _,by omega,rfl,gy _ _,fun j _ h=>absurd h (yt _)⟩
  case round =>
   obtain⟨k,hk,hg,rfl,hbl,hall⟩:=hrel;have HG:=hide hg;have HA:=hide hall;clear hg hall
   by_cases hlt:k<xs.length
   ·obtain⟨b,o,cs,rfl,_,hb,hcs,hc,hR⟩:=uh HX k hlt
    have hc:∀j (hj:j<cs.length),wr.cell? ⟨b,o+k*3+j,none⟩=some cs[j]:=fun j hj=>by rw[hbl.cell (p:=⟨b,_,none⟩) hb];exact hc j hj
    obtain⟨rfl,hsn,ho,hvl⟩:=hR;have c0:=hc 0 (by simp);have c1:=hc 1 (by simp);have c2:=hc 2 (by simp);simp only[jr,jh,ny,o8] at c0 c1 c2;have HC:=hide (fun w=>ap0 xs[k] w hsn);clear hc hcs hsn ho hvl
    cases hp:X4 xs[k]
    ·have F:xs.all X4=false:=by
      rw[List.all_eq_false];exact⟨xs[k],pz hlt,by rw[hp];decide⟩
     have HF:=hide F;clear F;go_wp2_with fail;refine(uh HC _).mono ?_;rintro e w1 ⟨rfl,hb1⟩;rw[hp];go_wp2;go_ret;exact⟨zu (uh HF).symm,hbl.trans (((gy _ _).alloc hbl.size _).trans (hb1.mono (jq hbl.size (by simp))))⟩
    ·have A':∀j (h:j<xs.length),j<k+1->X4 xs[j]=true:=by
      intro j h h1
      by_cases e:j=k
      ·subst e;exact hp
      ·exact uh HA j h (by omega)
     have HA':=hide A';clear A';go_wp2_with fail;refine(uh HC _).mono ?_;rintro e w1 ⟨rfl,hb1⟩;rw[hp];go_wp2
     go_roundg (xs.length-(k+1))
     case measure=>have:=uh HG;omega
     case rel=>exact⟨k+1,by omega,rfl,by go_num,hbl.trans (((gy _ _).alloc hbl.size _).trans (hb1.mono (jq hbl.size (by simp)))),uh HA'⟩
   ·have e:k=xs.length:=by omega
    have T:xs.all X4=true:=by
     rw[xw];intro x hx;obtain⟨j,hj,rfl⟩:=List.getElem_of_mem hx;exact uh HA j hj (by omega)
    have HT:=hide T;clear T;go_wp2;go_ret;exact⟨zu (uh HT).symm,hbl⟩
def fw:List ku->Int->Option Int
 | [],r=>some r
 | t::ts,r=>if r<U5 t.op then none else fw ts (r+(1-U5 t.op))
theorem avg (xs:List ku) (t:ku) (r:Int):fw (xs++[t]) r=(fw xs r).bind (fun q=>if q<U5 t.op then none else some (q+(1-U5 t.op))):=by
 induction xs generalizing r with
 | nil=>simp[fw]
 | cons x xs ih =>
  simp only[Fe,fw]
  split
  ·rfl
  ·exact ih _
theorem bb9 (rev:List ku) (n:Nat):bk rev n=some 0↔(∀t,t∈rev->0<=U5 t.op)∧fw rev.reverse 0=some (n:Int):=by
 induction rev generalizing n with
 | nil =>
  cases n with
  | zero=>simp[bk,fw]
  | succ n =>
   simp[bk,fw];omega
 | cons t ts ih =>
  rw[List.reverse_cons,avg]
  cases n with
  | zero =>
   rw[aqv];constructor
   ·intro h;simp at h
   ·rintro⟨h1,h2⟩
    cases hq:fw ts.reverse 0 with
    | none=>rw[hq] at h2;simp at h2
    | some q =>
     rw[hq] at h2;simp at h2;omega
  | succ n =>
   simp only[bk]
   by_cases hneg:U5 t.op<0
   ·rw[gu hneg]
    constructor
    ·intro h;cases h
    ·rintro⟨h1,_⟩
     have:=h1 t (H7 ..);omega
   ·rw[ay hneg,ih]
    constructor
    ·rintro⟨h1,h2⟩
     refine⟨fun x hx=>?_,?_⟩
     ·rcases ql.1 hx with rfl|hx
      ·omega
      ·exact h1 x hx
     ·rw[h2]
      simp;omega
    ·rintro⟨h1,h2⟩
     refine⟨fun x hx=>h1 x (G8 _ hx),?_⟩
     cases hq:fw ts.reverse 0 with
     | none=>rw[hq] at h2;simp at h2
     | some q =>
      rw[hq] at h2;simp at h2;rw[uo];omega
theorem a3k (xs:List ku) (r:Int) (h:∀t,t∈xs->ocI t.op=U5 t.op):wk xs r=true↔fw xs r=some 1:=by
 induction xs generalizing r with
 | nil =>
  simp only[wk,fw];simp
 | cons t ts ih =>
  simp only[wk,fw];rw[h t (H7 ..)]
  by_cases hneg:r<U5 t.op
  ·rw[gu hneg,gu hneg];simp
  ·rw[ay hneg,ay hneg]
   exact ih _ (fun x hx=>h x (G8 _ hx))
theorem a3l (op:Int) (h:0<=U5 op):ocI op=U5 op:=by
 unfold U5 at *;unfold ocI
 by_cases h1:(1<=op∧op<=3)∨op=25
 ·rw[gu h1,gu (by omega)]
 ·rw[ay h1] at h
  rw[ay h1,ay (by omega)]
  by_cases h2:op=4∨op=5∨op=21∨op=22∨op=23
  ·rw[gu h2,gu h2]
  ·rw[ay h2] at h
   rw[ay h2,ay h2]
   by_cases h3:(6<=op∧op<=19)∨op=24
   ·rw[gu h3,ay (by omega)]
   ·rw[ay h3] at h
    rw[ay h3]
    by_cases h4:op=20
    ·rw[gu h4,gu h4]
    ·rw[ay h4] at h
     omega
theorem avh (op:Int):0<=U5 op↔1<=op∧op<=25:=by
 unfold U5
 by_cases h1:(1<=op∧op<=3)∨op=25
 ·rw[gu h1];omega
 ·rw[ay h1]
  by_cases h2:op=4∨op=5∨op=21∨op=22∨op=23
  ·rw[gu h2];omega
  ·rw[ay h2]
   by_cases h3:(6<=op∧op<=19)∨op=24
   ·rw[gu h3];omega
   ·rw[ay h3]
    by_cases h4:op=20
    ·rw[gu h4];omega
    ·rw[ay h4];omega
theorem a4c (xs:List ku):(bgI xs == 0)=true↔bk xs.reverse 1=some 0:=by
 unfold bgI;rw[Fg]
 cases h:bk xs.reverse 1 with
 | none=>simp
 | some m=>simp
theorem avi (t:ku):itB t=true↔(1<=t.op∧t.op<=24)∧rgB t=true∧nmB t=true:=by
 simp[itB,and_assoc]
theorem agz (t:ku):X4 t=true↔nmB t=true∧(t.op=25∨rgB t=true):=by
 simp[X4]
theorem Cm (a b c:dh):a++b++c=a++(b++c):=by
 apply ByteArray.ext;simp[ByteArray.data_append]
theorem afs (a:dh):a++ByteArray.empty=a:=by
 apply ByteArray.ext;simp[ByteArray.data_append]
theorem ado (a:dh):ByteArray.empty++a=a:=by
 apply ByteArray.ext;simp[ByteArray.data_append]
theorem Lc (a b:dh):(a++b).size=a.size+b.size:=by simp[ByteArray.size_append]
def bc9:dh:=⟨#[40,45,32]⟩
def bda:dh:=⟨#[40,110,111,116,32]⟩
def Lcl:dh:=⟨#[41]⟩
def Lop:dh:=⟨#[40]⟩
def Lif:dh:=⟨#[40,105,102,32]⟩
def bca:dh:=⟨#[32,116,104,101,110,32]⟩
def bcb:dh:=⟨#[32,101,108,115,101,32]⟩
def a7d:dh:=⟨#[32,102,98,121,32]⟩
def a7e:dh:=⟨#[40,109,101,114,103,101,32]⟩
def Lsp:dh:=⟨#[32]⟩
def N9:dh:=⟨#[116,114,117,101]⟩
def J5:dh:=⟨#[102,97,108,115,101]⟩
def bcc:dh:=⟨#[32,119,104,101,110,32]⟩
def a4d:dh:=⟨#[32,119,104,101,110,111,116,32]⟩
def sgT (op:Int):dh:=if op=18 then ⟨#[111,114]⟩ else if op=19 then ⟨#[120,111,114]⟩ else if op=17 then ⟨#[97,110,100]⟩ else if op=11 then ⟨#[61]⟩ else if op=12 then ⟨#[60,62]⟩ else if op=13 then ⟨#[60]⟩ else if op=14 then ⟨#[60,61]⟩ else if op=15 then ⟨#[62]⟩ else if op=16 then ⟨#[62,61]⟩ else if op=6 then ⟨#[43]⟩ else if op=7 then ⟨#[45]⟩ else if op=8 then ⟨#[42]⟩ else if op=9 then ⟨#[47]⟩ else if op=10 then ⟨#[109,111,100]⟩ else ⟨#[]⟩
theorem ayp (op:Int):(sgT op).size<=3:=by
 have hs:∀(c:Prop) [Decidable c] (a b:dh),a.size<=3->b.size<=3->(if c then a else b).size<=3:=by
  intro c _ a b ha hb
  split
  ·exact ha
  ·exact hb
 unfold sgT;refine hs _ _ _ (by decide) (hs _ _ _ (by decide) (hs _ _ _ (by decide) (hs _ _ _ (by decide) (hs _ _ _ (by decide) (hs _ _ _ (by decide) (hs _ _ _ (by decide) (hs _ _ _ (by decide) (hs _ _ _ (by decide) (hs _ _ _ (by decide) (hs _ _ _ (by decide) (hs _ _ _ (by decide) (hs _ _ _ (by decide) (hs _ _ _ (by decide) (by decide))))))))))))))
def qm (n:Int):dh:=⟨(Lib.itoa n).toArray⟩
def flT (v:Int):dh:=if v=0 then J5 else N9
def cnT (on:Bool) (name:dh):dh:=(if on=true then bcc else a4d)++name
def Fq (sep:dh) (xs:List dh):dh:=⟨(Lib.join (xs.map (·.data.toList)) sep.data.toList).toArray⟩
def arN (op:Int):Nat:=(ocI op).toNat
def tsT (t:ku):List dh :=
 if t.op=1 then [qm t.val] else if t.op=2 then [flT t.val] else if t.op=3 then [t.name] else if t.op=4 then [bc9,Lcl] else if t.op=5 then [bda,Lcl]
 else if t.op=20 then [Lif,bca,bcb,Lcl] else if t.op=21 then [Lop++qm t.val++a7d,Lcl] else if t.op=22 then [Lop++flT t.val++a7d,Lcl]
 else if t.op=23 then [Lop,cnT (decide (t.val=1)) t.name++Lcl] else if t.op=24 then [a7e++t.name++Lsp,Lsp,Lcl] else [Lop,Lsp++sgT t.op++Lsp,Lcl]
def asl:List dh->List dh->dh
 | [],_=>ByteArray.empty
 | t::_,[]=>t
 | t::ts,u::us=>t++(u++asl ts us)
inductive Ch (code:List ku):Nat->Nat->List dh->Prop
 | nil (b:Nat):Ch code b b []
 | snoc {b m e:Nat} {ss us:List dh} (h:e<code.length) (h1:Ch code b m ss) (h2:Ch code m e us) (h3:us.length=arN code[e].op):Ch code b (e+1) (ss++[asl (tsT code[e]) us])
theorem Ch.Zv {code:List ku} {b e:Nat} {ss:List dh} {n:Nat} (h:Ch code b e ss) (hn:ss.length=n+1) :
  ∃m e1 s0 us,∃h:e1<code.length,e=e1+1∧ss=s0++[asl (tsT code[e1]) us]∧s0.length=n∧Ch code b m s0∧Ch code m e1 us∧us.length=arN code[e1].op:=by
 cases h with
 | nil=>simp at hn
 | @snoc _ m e1 s0 us h h1 h2 h3=>exact⟨m,e1,s0,us,h,rfl,rfl,by simpa using hn,h1,h2,h3⟩
theorem Ch.one {code:List ku}:∀e b b' us us',Ch code b e us->Ch code b' e us'->us.length=us'.length->b=b'∧us=us':=by
 intro e
 induction e using Nat.strongRecOn with
 | _ e ih =>
  intro b b' us us' h h' hl
  match hn:us.length with
  | 0 =>
   have e1:us=[]:=Qe hn;have e2:us'=[]:=Qe (by omega);subst e1 e2
   have f:∀b,Ch code b e []->b=e:=by
    intro b h;generalize hs:([]:List dh)=ss at h
    cases h with
    | nil=>rfl
    | snoc _ _ _ _=>simp at hs
   exact⟨(f b h).trans (f b' h').symm,rfl⟩
  | n+1 =>
   obtain⟨m,e1,s0,u,hlt,rfl,rfl,hs0,c1,c2,c3⟩:=h.Zv hn;obtain⟨m',e1',s0',u',hlt',he',rfl,hs0',c1',c2',c3'⟩:=h'.Zv (n:=n) (by omega);obtain rfl:e1=e1':=by omega
   obtain⟨rfl,rfl⟩:=ih e1 (Ri _) m m' u u' c2 c2' (by rw[c3,c3']);obtain⟨rfl,rfl⟩:=ih m (by have:=c2.le;omega) b b' s0 s0' c1 c1' (by omega);exact⟨rfl,rfl⟩
def szs (l:List dh):Nat:=(l.map (·.size)).sum
theorem ahv (x:dh) (l:List dh):szs (x::l)=x.size+szs l:=by simp[szs]
theorem a7f (B:Nat) (l:List dh) (h:∀x,x∈l->x.size<=B):szs l<=B*l.length:=by
 induction l with
 | nil=>simp[szs]
 | cons x l ih =>
  rw[ahv,uf,Nat.mul_succ];have h1:=h x (H7 ..);have h2:=ih (fun y hy=>h y (G8 _ hy));omega
theorem avj (s:dh) (h:nameB s=true):s.size<=40:=by
 simp only[nameB,Gg,I4,Bool.or_eq_true,uq,Eh] at h;omega
theorem a3m:∀(k u:Nat),u<10 ^ (k+1)->Lib.nDigits u<=k+1
 | 0,u,h=>by rw[Lib.nDigits_small (by simpa using h)];exact gq _
 | k+1,u,h=>by
  by_cases hs:u<10
  ·rw[Lib.nDigits_small hs];omega
  ·rw[Lib.nDigits_big hs]
   have:=a3m k (u / 10) (by rw[Nat.pow_succ] at h;omega);omega
theorem avk (u:Nat) (h:u<10000000000):(Lib.decDigits u).length<=10:=by
 rw[Lib.decDigits_eq];have:=a3m 9 u (by simpa using h);simpa using this
theorem ayq (v:Int):(flT v).size<=5:=by
 unfold flT
 split<;>decide
open Classical in
theorem ag0 (sep:dh):Fq sep []=ByteArray.empty:=rfl
theorem anf (sep:dh) (xs:List dh):(Lib.join (xs.map (·.data.toList)) sep.data.toList).length<=sep.size*xs.length+szs xs:=by
 cases xs with
 | nil=>simp[Lib.join_nil]
 | cons x xs =>
  rw[Ap,Lib.join_cons,je,Lib.joinTail_length]
  have:Lib.lens (xs.map (·.data.toList))=szs xs:=by
   unfold Lib.lens szs;rw[List.map_map];rfl
  rw[this,ahv,Ad,uf,Nat.mul_succ];simp only[Array.length_toList];have e1:x.data.size=x.size:=rfl;have e2:sep.data.size=sep.size:=rfl;rw[e1,e2];omega
theorem ahw (sep:dh) (xs:List dh) (B:Nat) (h:∀x,x∈xs->x.size<=B):(Fq sep xs).size<=sep.size*xs.length+B*xs.length:=by
 have h1:=anf sep xs;have h2:=a7f B xs h;have:(Fq sep xs).size=(Lib.join (xs.map (·.data.toList)) sep.data.toList).length:=by simp[Fq,ByteArray.size]
 omega
theorem O1 (sep x:dh):Fq sep [x]=x:=by
 apply ByteArray.ext;simp[Fq,Lib.join_one]
theorem ahx (sep:dh) (xs:List dh) (k:Nat) (h:k<xs.length) (hk:1<=k):Fq sep (xs.take (k+1))=Fq sep (xs.take k)++sep++xs[k]:=by
 match xs,k,h,hk with
 | x::xs,k+1,h,_ =>
  apply ByteArray.ext;apply Array.ext'
  have hx:(xs.map (·.data.toList))[k]?=some (xs[k]'(by simpa using h)).data.toList:=by
   have:k<xs.length:=by simpa using h
   simp[this]
  have hj:=Lib.joinTail_take_succ sep.data.toList (xs.map (·.data.toList)) k _ hx;simp only[Fq,List.take_succ_cons,Ap,Lib.join_cons,ByteArray.data_append,o8,Array.toList_append];rw[List.map_take,List.map_take,hj];simp[Gt]
structure jw where
 name:dh
 type:Int
structure lu where
 kind:Int
 name:dh
 at_:Int
 ak:List dh
 code:List ku
 args:List (List ku)
structure dw where
 name:dh
 ins:List jw
 ak:List jw
 iq:List dh
 eu:List Int
 au:List Int
 body:List lu
def Oy (_:Nat) (_:bf) (cs:List Value) (t:jw):Prop:=cs=[.string t.name,.int .i64 t.type]∧Len t.name.size∧I64 t.type
def Zu (lo:Nat) (w:bf) (cs:List Value) (t:lu):Prop:=∃o c a,cs=[.int .i64 t.kind,.string t.name,.int .i64 t.at_,o,c,a]∧Len t.name.size∧I64 t.kind∧I64 t.at_∧iy 1 16 wz lo w o t.ak∧iy 3 32 Gp lo w c t.code∧iy 1 24 Io lo w a t.args
def Dl (lo:Nat) (w:bf) (cs:List Value) (k:dw):Prop:=∃i o l m n b,cs=[.string k.name,i,o,l,m,n,b]∧Len k.name.size∧iy 2 24 Oy lo w i k.ins∧iy 2 24 Oy lo w o k.ak∧iy 1 16 wz lo w l k.iq∧iy 1 8 J4 lo w m k.eu∧iy 1 8 J4 lo w n k.au∧iy 6 104 Zu lo w b k.body
theorem Ip:Qh Oy:=fun _ _ _ _ _ _ h=>h
theorem P9:Qh Zu:=fun _ _ _ _ _ hb ⟨o,c,a,h1,h2,h3,h4,h5,h6,h7⟩=>⟨o,c,a,h1,h2,h3,h4,h5.kept zo hb,h6.kept Ag hb,h7.kept I9 hb⟩
theorem Ei:Qh Dl:=fun _ _ _ _ _ hb ⟨i,o,l,m,n,b,h1,h2,h3,h4,h5,h6,h7,h8⟩=>⟨i,o,l,m,n,b,h1,h2,h3.kept Ip hb,h4.kept Ip hb,h5.kept zo hb,h6.kept Fp hb,h7.kept Fp hb,h8.kept P9 hb⟩
def Ul (t:jw):Nat:=t.name.size
def Nv (t:lu):Nat:=t.name.size+oq Qw t.ak+oq Gq t.code+oq (oq Gq) t.args
def qx (k:dw):Nat:=k.name.size+oq Ul k.ins+oq Ul k.ak+oq Qw k.iq+k.eu.length+k.au.length+oq Nv k.body
end Go.Proofs.YtfeejeflmcapoaaGreatDoor
