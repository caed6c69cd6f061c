import Derived.Test.YtfeejeflmcapoaaGreatDoorData
import Derived.Lib.ItoaNum
import Derived.Lib.Join
import Derived.Test.YtfeejeflmcapoaaGreatDoorProg
import Derived.WalkLawsBesides
import Derived.Deep.LoopGhost
set_option linter.unusedSimpArgs false
set_option linter.unusedVariables false
set_option maxHeartbeats 1000000
namespace Go.Proofs.YtfeejeflmcapoaaGreatDoor
open Go.RowKit
theorem a6n (a b:UInt8):((a.toNat:Int)==(b.toNat:Int))=(a==b):=by
 rw[Oa,Ey,Ey,Int.ofNat_inj,UInt8.toNat_inj]
theorem ayh (s:dh) (h:1<=s.size):((s.extract 0 1).toList==[36])=(uf s 0==36):=by
 rw[Qa (show 0<s.size from h),ByteArray.toList_eq]
 have e:(s.extract 0 1).data.toList=[s[0]'h]:=by
  match s,h with
  | ⟨⟨a::t⟩⟩,_=>simp;rfl
 rw[e];have:=a6n (s[0]'h) 36;rw[show ((36:UInt8).toNat:Int)=36 from rfl] at this;rw[this,Oa,Ey,Ey,List.cons.injEq];simp
def tl (s:dh):dh:=s.extract 1 s.size
theorem akc (s:dh):(tl s).size=s.size-1:=by simp[tl]
theorem anb (s:dh) (i:Nat) (h:i<s.size-1):uf (tl s) i=uf s (i+1):=by
 have h1:i<(tl s).size:=by rw[akc];exact h
 rw[Qa h1,Qa (show i+1<s.size by omega)];congr 2;simp only[tl,ByteArray.getElem_eq_getElem_data,ByteArray.data_extract,Array.getElem_extract,Nat.add_comm]
def Nl (s:dh):Bool:=decide (1<=s.size)&&(uf s 0==36)
theorem afp (s:dh) (w:cu) (hs:Len s.size) :
  Calls Tryz.prog 165 #[.string s,.string ⟨#[36]⟩] w fun e w'=>e=.returned (.bool (Nl s))/\w'=w:=by
 unfold Len at hs
 by_cases h1:1<=s.size
 ·have e:Nl s=((s.extract 0 1).toList==[36]):=by rw[ayh s h1];simp[Nl,h1]
  rw[e];clear e;go_enter Tryz.func165,Tryz.ntmps165;go_wp2;go_ret;exact⟨rfl,rfl⟩
 ·have e:Nl s=false:=by simp[Nl,h1]
  rw[e];clear e;go_enter Tryz.func165,Tryz.ntmps165;go_wp2;go_ret;exact⟨rfl,rfl⟩
theorem aja (s:dh) (w:cu) (hs:Len s.size) :
  Calls Tryz.prog 140 #[.string s,.string ⟨#[36]⟩] w fun e w'=>e=.returned (.tuple #[.string (if Nl s=true then tl s else s),.bool (Nl s)])/\w'=w:=by
 have HS:=ak hs;unfold Len at hs
 cases hst:Nl s
 ·rw[bf (by decide)]
  go_enter Tryz.func140,Tryz.ntmps140;go_wp2_with (go_at_call 165;refine(afp s _ (uh HS)).mono ?_;rintro e w' ⟨rfl,rfl⟩;rw[hst])
  go_ret2
  exact⟨rfl,rfl⟩
 ·rw[gy rfl]
  have h1:1<=s.size:=by
   simp[Nl] at hst;have:=hst.1;omega
  have h1':(1:Int)<=(s.size:Int):=by omega
  have HT:Hid (tl s=s.extract 1 s.size):=rfl;go_enter Tryz.func140,Tryz.ntmps140;go_wp2_with (go_at_call 165;refine(afp s _ (uh HS)).mono ?_;rintro e w' ⟨rfl,rfl⟩;rw[hst])
  go_ret2
  exact⟨rfl,rfl⟩
theorem Ve (s:dh) (w:cu) (hs:Len s.size) :
  Calls Tryz.prog 118 #[.string s,.string ⟨#[36]⟩] w fun e w'=>e=.returned (.tuple #[.string (if Nl s=true then tl s else s),.bool (Nl s)])/\w'=w:=by
 cases hst:Nl s
 ·rw[bf (by decide)]
  go_enter Tryz.func118,Tryz.ntmps118;go_wp2_with (go_at_call 140;refine(aja s _ hs).mono ?_;rintro e w' ⟨rfl,rfl⟩;rw[hst,bf (by decide)])
  go_ret2
  exact⟨rfl,rfl⟩
 ·rw[gy rfl]
  go_enter Tryz.func118,Tryz.ntmps118;go_wp2_with (go_at_call 140;refine(aja s _ hs).mono ?_;rintro e w' ⟨rfl,rfl⟩;rw[hst,gy rfl])
  go_ret2
  exact⟨rfl,rfl⟩
theorem ava (s:dh) (h:Nl s=true):Ir s=(decide (1<=(tl s).size/\(tl s).size<=9)&&!decide (uf (tl s) 0=48)&&(Zm (tl s)).all Ko):=by
 have hs1:1<=s.size:=by simp[Nl] at h;have:=h.1;omega
 have hb0:uf s 0=36:=by simp[Nl] at h;exact h.2
 rw[aqs,akc]
 by_cases h2:2<=s.size
 ·have e1:uf (tl s) 0=uf s 1:=anb s 0 (by omega)
  have e2:allB (fun i=>Ko (uf (tl s) i)) 0 (s.size-1)=allB (fun i=>Ko (uf s i)) 1 s.size:=by
   unfold allB;rw[decide_eq_decide];constructor
   ·intro hh j hj h1j
    have:=hh (j-1) (by omega) (jg _);simp only at this;rw[anb s (j-1) (by omega),show j-1+1=j from by omega] at this;exact this
   ·intro hh j hj _
    simp only;rw[anb s j hj];exact hh (j+1) (by omega) (by omega)
  have e3:decide (2<=s.size/\s.size<=10)=decide (1<=s.size-1/\s.size-1<=9):=by rw[decide_eq_decide];omega
  rw[e1,e2];simp only[Ir,hb0,e3];simp
 ·have e3:decide (2<=s.size/\s.size<=10)=false:=by rw[Nh];omega
  have e4:decide (1<=s.size-1/\s.size-1<=9)=false:=by rw[Nh];omega
  simp only[Ir,e3,e4,Aw]
theorem avb (s:dh) (h:Nl s=false):Ir s=false:=by
 unfold Nl at h;unfold Ir
 by_cases h1:1<=s.size
 ·simp only[h1,decide_true,Ak] at h
  have:¬uf s 0=36:=by intro hh;rw[hh] at h;exact absurd h (by decide)
  simp[this]
 ·have:decide (2<=s.size/\s.size<=10)=false:=by rw[Nh];omega
  rw[this];simp
theorem ash (s:dh) (w:cu) (hs:Len s.size) :
  Calls Tryz.prog 143 #[.string s] w (Ans (.bool (Ir s)) w):=by
 cases hst:Nl s
 ·rw[avb s hst]
  go_enter Tryz.func143,Tryz.ntmps143;go_wp2_with (go_at_call 118;refine(Ve s _ hs).mono ?_;rintro e w' ⟨rfl,rfl⟩;rw[hst,bf (by decide)]);go_ret;exact⟨rfl,iq _ _⟩
 rw[ava s hst];have hls:Len (tl s).size:=by unfold Len at *;rw[akc];omega
 generalize htl:tl s=d at *;have HT:=ak htl;have HL:=ak hls;clear htl;unfold Len at hls
 by_cases h1:d.size<1
 ·have e:(decide (1<=d.size/\d.size<=9)&&!decide (uf d 0=48)&&(Zm d).all Ko)=false:=by
   have:decide (1<=d.size/\d.size<=9)=false:=by rw[Nh];omega
   simp only[this,Aw]
  rw[e];have d1:decide ((d.size:Int)<1)=true:=by simp;omega
  clear e;go_enter Tryz.func143,Tryz.ntmps143;go_wp2_with (go_at_call 118;refine(Ve s _ hs).mono ?_;rintro e w' ⟨rfl,rfl⟩;rw[hst,gy rfl,uh HT]);go_ret;exact⟨rfl,iq _ _⟩
 have d1:decide ((d.size:Int)<1)=false:=by simp;omega
 by_cases h2:9<d.size
 ·have e:(decide (1<=d.size/\d.size<=9)&&!decide (uf d 0=48)&&(Zm d).all Ko)=false:=by
   have:decide (1<=d.size/\d.size<=9)=false:=by rw[Nh];omega
   simp only[this,Aw]
  rw[e];have d2:decide (9<(d.size:Int))=true:=by simp;omega
  clear e;go_enter Tryz.func143,Tryz.ntmps143;go_wp2_with (go_at_call 118;refine(Ve s _ hs).mono ?_;rintro e w' ⟨rfl,rfl⟩;rw[hst,gy rfl,uh HT]);go_ret;exact⟨rfl,iq _ _⟩
 have d2:decide (9<(d.size:Int))=false:=by simp;omega
 have g0:0<d.size:=by omega
 have b0:=Qa g0
 by_cases h3:(d[0].toNat:Int)=48
 ·have e:(decide (1<=d.size/\d.size<=9)&&!decide (uf d 0=48)&&(Zm d).all Ko)=false:=by simp[b0,h3]
  rw[e];have d3:((d[0].toNat:Int)==48)=true:=by rw[Ey];exact h3
  clear e b0 h3;go_enter Tryz.func143,Tryz.ntmps143;go_wp2_with (go_at_call 118;refine(Ve s _ hs).mono ?_;rintro e w' ⟨rfl,rfl⟩;rw[hst,gy rfl,uh HT]);go_ret;exact⟨rfl,iq _ _⟩
 have d3:((d[0].toNat:Int)==48)=false:=by rw[su];exact h3
 have e:(decide (1<=d.size/\d.size<=9)&&!decide (uf d 0=48)&&(Zm d).all Ko)=(Zm d).all Ko:=by
  have:1<=d.size/\d.size<=9:=by omega
  simp[b0,h3,this]
 rw[e];clear e b0 h3;have hcv:=fun w=>Lib.run_convert_string_bytes (P:=Tryz.prog) w 9 64 5 d Tryz.underlying9 Tryz.underlying64 Tryz.underlying5
 go_enter Tryz.func143,Tryz.ntmps143;go_wp2_with fail;refine(Ve s _ hs).mono ?_;rintro e w' ⟨rfl,rfl⟩;rw[hst,gy rfl,uh HT];go_wp2_with fail;refine(aee Ko a6m (Zm d) _ _ (bytes_at _ _ d _ (uh HL) (grownCap_ge _ _ _ _))).mono ?_;rintro e w1 ⟨rfl,hb⟩;go_wp2;go_ret;exact⟨rfl,(aam _ _ _).trans (hb.mono (aam _ _ _).size)⟩
theorem afo (s:dh) (w:cu) (hs:Len s.size) :
  Calls Tryz.prog 125 #[.string s] w (Ans (.bool (nameB s)) w):=by
 cases hp:Fz s
 ·have e:nameB s=Ir s:=by simp[nameB,hp]
  rw[e];clear e;go_enter Tryz.func125,Tryz.ntmps125;go_wp2_with fail;refine(alo s _ hs).mono ?_;rintro e w1 ⟨rfl,hb⟩;rw[hp];go_wp2_with fail;refine(ash s _ hs).mono ?_;rintro e w2 ⟨rfl,hb2⟩;go_wp2;go_ret;exact⟨rfl,hb.trans (hb2.mono hb.size)⟩
 ·have e:nameB s=true:=by simp[nameB,hp]
  rw[e];clear e;go_enter Tryz.func125,Tryz.ntmps125;go_wp2_with fail;refine(alo s _ hs).mono ?_;rintro e w1 ⟨rfl,hb⟩;rw[hp];go_wp2;go_ret;exact⟨rfl,hb⟩
def U1 (op:Int):Int:=if (1<=op/\op<=3)\/op=25 then 0 else if op=4\/op=5\/op=21\/op=22\/op=23 then 1 else if (6<=op/\op<=19)\/op=24 then 2 else if op=20 then 3 else -1
def ocI (op:Int):Int:=if op=1\/op=2\/op=3\/op=25 then 0 else if op=4\/op=5\/op=21\/op=22\/op=23 then 1 else if op=20 then 3 else 2
def loI (op:Int):Int:=if op=21 then -2147483647 else 0
def Yy (op:Int):Int:=if op=1\/op=21 then 2147483647 else if op=2\/op=22\/op=23 then 1 else 0
theorem Sm {a b:Int} (h:a=b):Ending.returned (.int .i64 a)=.returned (.int .i64 b):=by rw[h]
theorem ayi {a b c d:Int} (h:a=b) (g:c=d):Ending.returned (.tuple #[.int .i64 a,.int .i64 c])=.returned (.tuple #[.int .i64 b,.int .i64 d]):=by rw[h,g]
theorem a6o (op:Int) : -1<=U1 op/\U1 op<=3:=by unfold U1;split<;>(try split)<;>(try split)<;>(try split)<;>omega
theorem a6p (op:Int):0<=ocI op/\ocI op<=3:=by unfold ocI;split<;>(try split)<;>(try split)<;>omega
theorem asi (op:Int) (w:cu) (h:I64 op) :
  Calls Tryz.prog 177 #[.int .i64 op] w fun e w'=>e=.returned (.int .i64 (U1 op))/\w'=w:=by
 unfold I64 at h;go_enter Tryz.func177,Tryz.ntmps177;go_wp2
 all_goals
  go_ret;refine⟨Sm ?_,rfl⟩
  simp_all [U1]
  try omega
theorem ajb (op:Int) (w:cu) :
  Calls Tryz.prog 193 #[.int .i64 op] w fun e w'=>e=.returned (.int .i64 (ocI op))/\w'=w:=by
 go_enter Tryz.func193,Tryz.ntmps193;go_wp2
 all_goals
  go_ret;refine⟨Sm ?_,rfl⟩
  simp_all [ocI]
  try omega
theorem amo (op:Int) (w:cu) :
  Calls Tryz.prog 194 #[.int .i64 op] w fun e w'=>e=.returned (.tuple #[.int .i64 (loI op),.int .i64 (Yy op)])/\w'=w:=by
 go_enter Tryz.func194,Tryz.ntmps194;go_wp2
 all_goals
  go_ret2
  refine⟨ayi ?_ ?_,rfl⟩
  all_goals
   simp_all [loI,Yy]
   try omega
def nmB (t:l9):Bool:=if t.op=3\/t.op=23\/t.op=24 then nameB t.name else decide (t.name.size=0)
def rgB (t:l9):Bool:=decide (loI t.op<=t.val/\t.val<=Yy t.op)
def Xx (t:l9):Bool:=nmB t&&(decide (t.op=25)||rgB t)
def itB (t:l9):Bool:=decide (1<=t.op/\t.op<=24)&&rgB t&&nmB t
theorem apy (s:dh) (h:s.size=0):nameB s=false:=by
 simp[nameB,Fz,Ir,h]
theorem I9 (s:dh) (h:s.size=0):s.toList.isEmpty=true:=by
 have e:s.data.toList=[]:=Sj (by rw[Array.length_toList];exact h);rw[ByteArray.toList_eq,e];rfl
theorem J5 (s:dh) (h:s.size≠0):s.toList.isEmpty=false:=by
 cases hh:s.toList.isEmpty with
 | false=>rfl
 | true =>
  rw[List.isEmpty_iff,ByteArray.toList_eq] at hh;have:=ni List.length hh;rw[Array.length_toList] at this;exact absurd this h
theorem amq (t:l9) (w:cu) (hs:Len t.name.size) :
  Calls Tryz.prog 195 #[.agg #[.int .i64 t.op,.int .i64 t.val,.string t.name]] w (Ans (.bool (nmB t)) w):=by
 obtain⟨op,val,s⟩:=t;simp only at hs
 by_cases hn:op=3\/op=23\/op=24
 ·have e:nmB ⟨op,val,s⟩=nameB s:=by simp only[nmB];rw[gy hn]
  rw[e];clear e;rcases hn with rfl|rfl|rfl
  all_goals
   go_enter Tryz.func195,Tryz.ntmps195;go_wp2_with fail;refine(afo s _ hs).mono ?_;rintro e w1 ⟨rfl,hb⟩;go_wp2;go_ret;exact⟨rfl,((iq _ _).alloc (gu _) _).trans (hb.mono (by simp))⟩
 ·have e:nmB ⟨op,val,s⟩=s.toList.isEmpty:=by
   simp only[nmB];rw[bf hn]
   by_cases h0:s.size=0
   ·rw[I9 s h0];simpa using h0
   ·rw[J5 s h0];simpa using h0
  rw[e];clear e;have d1:(op==3)=false:=by rw[su];omega
  have d2:(op==23)=false:=by rw[su];omega
  have d3:(op==24)=false:=by rw[su];omega
  clear hn;go_enter Tryz.func195,Tryz.ntmps195;go_wp2;go_ret;exact⟨rfl,(iq _ _).alloc (gu _) _⟩
theorem avc (t:l9) (w:cu) (hs:Len t.name.size) :
  Calls Tryz.prog 192 #[.agg #[.int .i64 t.op,.int .i64 t.val,.string t.name]] w (Ans (.bool (itB t)) w):=by
 have HI:=ak (fun w=>amq t w hs);have HE:Hid (itB t=(decide (1<=t.op/\t.op<=24)&&rgB t&&nmB t)):=rfl;have HR:Hid (rgB t=decide (loI t.op<=t.val/\t.val<=Yy t.op)):=rfl;generalize itB t=res at *;generalize nmB t=nm at *;generalize rgB t=rg at *;obtain⟨op,val,s⟩:=t;simp only at hs
 by_cases h1:op<1
 ·have d1:decide (op<1)=true:=by simpa using h1
  have e:res=false:=by rw[uh HE];simp;intro;omega
  subst e;go_enter Tryz.func192,Tryz.ntmps192;go_wp2;go_ret;exact⟨rfl,(iq _ _).alloc (gu _) _⟩
 have d1:decide (op<1)=false:=by simpa using h1
 by_cases h2:24<op
 ·have d2:decide (24<op)=true:=by simpa using h2
  have e:res=false:=by rw[uh HE];simp;intro;omega
  subst e;go_enter Tryz.func192,Tryz.ntmps192;go_wp2;go_ret;exact⟨rfl,(iq _ _).alloc (gu _) _⟩
 have d2:decide (24<op)=false:=by simpa using h2
 have e:res=(rg&&nm):=by
  have hh:decide (1<=op/\op<=24)=true:=by simp;omega
  rw[uh HE];simp only[hh,Ak]
 subst e;have hr:=uh HR;simp only at hr;have HV:=ak (fun w=>amo op w);generalize loI op=lo at *;generalize Yy op=hi at *
 by_cases h3:lo<=val/\val<=hi
 ·have e:rg=true:=by rw[hr];simpa using h3
  subst e;obtain⟨h3,h4⟩:=h3;have d3:decide (lo<=val)=true:=by simpa using h3
  have d4:decide (val<=hi)=true:=by simpa using h4
  clear hr;go_enter Tryz.func192,Tryz.ntmps192;go_wp2_with fail;refine(uh HV _).mono ?_;rintro e w1 ⟨rfl,rfl⟩;go_wp2_with fail;refine(uh HI _).mono ?_;rintro e w2 ⟨rfl,hb⟩;go_wp2;go_ret;exact⟨zl (by simp),((iq _ _).alloc (gu _) _).trans (hb.mono (by simp))⟩
 ·have e:rg=false:=by rw[hr];simpa using h3
  subst e;clear hr
  by_cases h4:lo<=val
  ·have h5:¬val<=hi:=fun h=>h3 ⟨h4,h⟩
   have d3:decide (lo<=val)=true:=by simpa using h4
   have d4:decide (val<=hi)=false:=by simpa using h5
   clear h3;go_enter Tryz.func192,Tryz.ntmps192;go_wp2_with fail;refine(uh HV _).mono ?_;rintro e w1 ⟨rfl,rfl⟩;go_wp2;go_ret;exact⟨zl (by simp),(iq _ _).alloc (gu _) _⟩
  ·have d3:decide (lo<=val)=false:=by simpa using h4
   clear h3;go_enter Tryz.func192,Tryz.ntmps192;go_wp2_with fail;refine(uh HV _).mono ?_;rintro e w1 ⟨rfl,rfl⟩;go_wp2;go_ret;exact⟨zl (by simp),(iq _ _).alloc (gu _) _⟩
theorem apz (t:l9) (w:cu) (hs:Len t.name.size) :
  Calls Tryz.prog 162 #[.agg #[.int .i64 t.op,.int .i64 t.val,.string t.name]] w (Ans (.bool (Xx t)) w):=by
 obtain⟨op,val,s⟩:=t;simp only at hs
 by_cases hn:op=3\/op=23\/op=24
 ·have e:Xx ⟨op,val,s⟩=(nameB s&&decide (loI op<=val/\val<=Yy op)):=by
   have Rt:¬op=25:=by omega
   simp only[Xx,nmB,rgB,Rt,decide_false,Bool.false_or];rw[gy hn]
  rw[e];clear e
  by_cases h0:s.size=0
  ·have d0:=Na s h0
   have d0':=I9 s h0;rw[apy s h0];rcases hn with rfl|rfl|rfl
   all_goals
    go_enter Tryz.func162,Tryz.ntmps162;go_wp2;go_ret;exact⟨rfl,(iq _ _).alloc (gu _) _⟩
  ·have d0:=O1 s h0
   have d0':=J5 s h0
   cases hnm:nameB s
   ·rcases hn with rfl|rfl|rfl
    all_goals
     go_enter Tryz.func162,Tryz.ntmps162;go_wp2_with fail;refine(acf s _ hs).mono ?_;rintro e w1 ⟨rfl,hb⟩;rw[hnm];go_wp2;go_ret;exact⟨rfl,((iq _ _).alloc (gu _) _).trans (hb.mono (by simp))⟩
   ·rcases hn with rfl|rfl|rfl
    all_goals
     simp only[loI,Yy];go_enter Tryz.func162,Tryz.ntmps162;go_wp2_with fail;refine(acf s _ hs).mono ?_;rintro e w1 ⟨rfl,hb⟩;rw[hnm];obtain⟨hc1,hf1⟩:=aaj hb;have hz:=hb.size;simp only[Dy] at hz hc1 hf1;have hza:w.heap.size<w1.heap.size:=by omega
     have HB:=ak (((iq w.heap.size w).alloc (gu _) _).trans (hb.mono (by simp)));clear hb hz;go_wp2
     all_goals
      go_ret;refine⟨zl ?_,uh HB⟩
      simp_all
      try omega
 ·have d1:(op==3)=false:=by rw[su];omega
  have d2:(op==23)=false:=by rw[su];omega
  have d3:(op==24)=false:=by rw[su];omega
  have e:Xx ⟨op,val,s⟩=(decide (s.size=0)&&(decide (op=25)||decide (loI op<=val/\val<=Yy op))):=by
   simp only[Xx,nmB,rgB];rw[bf hn]
  rw[e];clear e
  by_cases h0:s.size=0
  ·have d0:=Na s h0
   have d0':=I9 s h0;have e:decide (s.size=0)=true:=by simpa using h0
   rw[e];clear e h0;go_enter Tryz.func162,Tryz.ntmps162;go_wp2
   all_goals
    go_ret;refine⟨zl ?_,(iq _ _).alloc (gu _) _⟩
    simp_all [loI,Yy]
    try omega
  ·have d0:=O1 s h0
   have d0':=J5 s h0;have e:decide (s.size=0)=false:=by simpa using h0
   rw[e];clear e h0;go_enter Tryz.func162,Tryz.ntmps162;go_wp2;go_ret;exact⟨rfl,(iq _ _).alloc (gu _) _⟩
def wk:List l9->Int->Bool
 | [],r=>r==1
 | t::ts,r=>if r<ocI t.op then false else wk ts (r+(1-ocI t.op))
def bk:List l9->Nat->Option Nat
 | ts,0=>some ts.length
 | [],_+1=>none
 | t::ts,n+1=>if U1 t.op<0 then none else bk ts (n+(U1 t.op).toNat)
def bgI (code:List l9):Int:=match bk code.reverse 1 with
 | none => -1
 | some m=>m
theorem ap0 (xs:List l9) (v:Value) (w:cu) (hv:jc 3 32 Gg 0 w v xs) :
  Calls Tryz.prog 191 #[v] w (Ans (.bool (wk xs 0)) w):=by
 obtain⟨a,cap,rfl,_,hn,hx⟩:=hv;unfold Len at hn;have HX:=ak hx;clear hx;go_enter Tryz.func191,Tryz.ntmps191;go_wp2
 go_loopg [3,9] xs.length (fun g l i wr=>∃(k:Nat) (r:Int),k<=xs.length/\g=xs.length-k/\i=.int .i64 k/\l=.int .i64 r/\0<=r/\r<=k/\wk xs 0=wk (xs.drop k) r/\Below w.heap.size w wr)
 case atStart=>exact⟨0,0,jg _,by omega,rfl,rfl,by omega,by omega,by simp,iq _ _⟩
 case round =>
  obtain⟨k,r,hk,hg,rfl,rfl,hr0,hr1,hwk,hbl⟩:=hrel;have HG:=ak hg;have HW:=ak hwk;clear hg hwk
  by_cases hlt:k<xs.length
  ·obtain⟨b,o,cs,rfl,_,hb,hcs,hc,hR⟩:=uh HX k hlt
   have hc:∀j (hj:j<cs.length),wr.cell? ⟨b,o+k*3+j,none⟩=some cs[j]:=fun j hj=>by rw[hbl.cell (p:=⟨b,_,none⟩) hb];exact hc j hj
   obtain⟨rfl,hsn,ho,hvl⟩:=hR;have c0:=hc 0 (by simp);have c1:=hc 1 (by simp);have c2:=hc 2 (by simp);simp only[jr,ji,og,ou] at c0 c1 c2;have hd:xs.drop k=xs[k]::xs.drop (k+1):=List.drop_eq_getElem_cons hlt;have hbd:=a6p xs[k].op;have HOC:=ak (fun w=>ajb xs[k].op w)
   by_cases hneg:r<ocI xs[k].op
   ·have F:wk xs 0=false:=by rw[uh HW,hd];simp only[wk];rw[gy hneg]
    have HF:=ak F;clear F hd hc hcs ho hvl hsn;generalize xs[k].op=op at *;generalize ocI op=oc at *;go_wp2_with fail;refine(uh HOC _).mono ?_;rintro e w1 ⟨rfl,rfl⟩;go_wp2;go_ret;exact⟨zl (uh HF).symm,hbl.trans ((iq _ _).alloc hbl.size _)⟩
   ·have F:wk xs 0=wk (xs.drop (k+1)) (r+(1-ocI xs[k].op)):=by
     rw[uh HW,hd];simp only[wk];rw[bf hneg]
    have HF:=ak F;clear F hd hc hcs ho hvl hsn;generalize xs[k].op=op at *;generalize ocI op=oc at *;go_wp2_with fail;refine(uh HOC _).mono ?_;rintro e w1 ⟨rfl,rfl⟩;go_wp2
    go_roundg (xs.length-(k+1))
    case measure=>have:=uh HG;omega
    case rel=>exact⟨k+1,r+(1-oc),by omega,rfl,by go_num,rfl,by omega,by omega,uh HF,hbl.trans ((iq _ _).alloc hbl.size _)⟩
  ·have e:k=xs.length:=by omega
   have F:wk xs 0=(r==1):=by rw[uh HW,e,List.drop_length];rfl
   have HF:=ak F;clear F;go_wp2;go_ret;exact⟨zl (uh HF).symm,hbl⟩
theorem int_eq {a b:Int} (h:a=b):Value.int .i64 a=.int .i64 b:=by rw[h]
theorem aqu (ts:List l9):bk ts 0=some ts.length:=by cases ts<;>rfl
theorem ayj (xs:List l9) (a:Nat) (h:a<xs.length):(xs.take (a+1)).reverse=xs[a]::(xs.take a).reverse:=by
 rw[Eu h,List.reverse_append];rfl
theorem ajc (xs:List l9) (v:Value) (w:cu) (hv:jc 3 32 Gg 0 w v xs) :
  Calls Tryz.prog 161 #[v,.int .i64 xs.length] w fun e w'=>e=.returned (.int .i64 (bgI xs))/\w'=w:=by
 obtain⟨a,cap,rfl,_,hn,hx⟩:=hv;unfold Len at hn;have HX:=ak hx;clear hx;go_enter Tryz.func161,Tryz.ntmps161;go_wp2
 go_loopg [5,6] (xs.length) (fun g l i wr=>∃(m n:Nat),m<=xs.length/\g=m/\l=.int .i64 m/\i=.int .i64 n/\n+3*m<=3*xs.length+1/\bk xs.reverse 1=bk (xs.take m).reverse n/\wr=w)
 case atStart=>exact⟨xs.length,1,gu _,rfl,rfl,rfl,by omega,by rw[Dw],rfl⟩
 case round =>
  obtain⟨m,n,hm,hg,rfl,rfl,hn3,hbk,rfl⟩:=hrel;have HG:=ak hg;have HB:=ak hbk;clear hg hbk
  match n with
  | 0 =>
   have F:bgI xs=m:=by
    unfold bgI;rw[uh HB,aqu];simp;omega
   have HF:=ak F;clear F;go_wp2;go_ret;exact⟨Sm (uh HF).symm,rfl⟩
  | n+1 =>
   match m with
   | 0 =>
    have F:bgI xs = -1:=by
     unfold bgI;rw[uh HB];rfl
    have HF:=ak F;clear F;go_wp2;go_ret;exact⟨Sm (uh HF).symm,rfl⟩
   | m+1 =>
    have hlt:m<xs.length:=by omega
    obtain⟨b,o,cs,rfl,_,hb,hcs,hc,hR⟩:=uh HX m hlt;obtain⟨rfl,hsn,ho,hvl⟩:=hR;have c0:=hc 0 (by simp);simp only[jr,ji,og,ou] at c0;have hbd:=a6o xs[m].op;have HAR:=ak (fun w=>asi xs[m].op w ho);have hd:=uh HB;rw[ayj xs m hlt] at hd;simp only[bk] at hd
    by_cases hneg:U1 xs[m].op<0
    ·have F:bgI xs = -1:=by
      unfold bgI;rw[hd,gy hneg]
     have HF:=ak F;clear F hd hc hcs ho hvl hsn;generalize xs[m].op=op at *;generalize U1 op=ar at *;go_wp2_with fail;refine(uh HAR _).mono ?_;rintro e w1 ⟨rfl,rfl⟩;go_wp2;go_ret;exact⟨Sm (uh HF).symm,rfl⟩
    ·rw[bf hneg] at hd
     have HF:=ak hd;clear hd hc hcs ho hvl hsn;generalize xs[m].op=op at *;generalize U1 op=ar at *;go_wp2_with fail;refine(uh HAR _).mono ?_;rintro e w1 ⟨rfl,rfl⟩;go_wp2_with fail;refine(uh HAR _).mono ?_;rintro e w1 ⟨rfl,rfl⟩;go_wp2
     go_roundg m
     case measure=>have:=uh HG;omega
     case rel=>exact⟨m,n+ar.toNat,by omega,rfl,by go_num,int_eq (by omega),by omega,uh HF,rfl⟩
def scM (most:Int) (code:List l9):Bool:=decide (1<=code.length/\(code.length:Int)<=most)&&bgI code==0&&code.all Xx
theorem anc (most:Int) (xs:List l9) (v:Value) (w:cu) (hv:jc 3 32 Gg 0 w v xs) :
  Calls Tryz.prog 137 #[v,.int .i64 most] w (Ans (.bool (scM most xs)) w):=by
 have HV:=ak hv;obtain⟨a,cap,rfl,_,hn,hx⟩:=hv;have HX:=ak hx;clear hx;unfold Len at hn
 by_cases h1:xs.length<1
 ·have d1:decide ((xs.length:Int)<1)=true:=by simp;omega
  have e:scM most xs=false:=by
   have:decide (1<=xs.length/\(xs.length:Int)<=most)=false:=by rw[Nh];omega
   simp only[scM,this,Aw]
  rw[e];clear e;go_enter Tryz.func137,Tryz.ntmps137;go_wp2;go_ret;exact⟨rfl,iq _ _⟩
 have d1:decide ((xs.length:Int)<1)=false:=by simp;omega
 by_cases h2:most<(xs.length:Int)
 ·have d2:decide (most<(xs.length:Int))=true:=by simp;omega
  have e:scM most xs=false:=by
   have:decide (1<=xs.length/\(xs.length:Int)<=most)=false:=by rw[Nh];omega
   simp only[scM,this,Aw]
  rw[e];clear e;go_enter Tryz.func137,Tryz.ntmps137;go_wp2;go_ret;exact⟨rfl,iq _ _⟩
 have d2:decide (most<(xs.length:Int))=false:=by simp;omega
 have hlen:decide (1<=xs.length/\(xs.length:Int)<=most)=true:=by simp;omega
 cases h3:(bgI xs==0)
 ·have e:scM most xs=false:=by simp only[scM,h3];simp
  rw[e];clear e;have d3:(bgI xs != 0)=true:=by rw[bne,h3];rfl
  have HBG:=ak (ajc xs _ w (uh HV));generalize bgI xs=bg at *;clear hlen;go_enter Tryz.func137,Tryz.ntmps137;go_wp2_with fail;refine(uh HBG).mono ?_;rintro e w1 ⟨rfl,rfl⟩;go_wp2;go_ret;exact⟨rfl,iq _ _⟩
 ·have e:scM most xs=xs.all Xx:=by simp only[scM,h3,hlen];simp
  rw[e];clear e;have d3:(bgI xs != 0)=false:=by rw[bne,h3];rfl
  have HBG:=ak (ajc xs _ w (uh HV));generalize bgI xs=bg at *;clear hlen;go_enter Tryz.func137,Tryz.ntmps137;go_wp2_with fail;refine(uh HBG).mono ?_;rintro e w ⟨rfl,rfl⟩;go_wp2
  go_loopg [25] xs.length (fun g i wr=>∃(k:Nat),k<=xs.length/\g=xs.length-k/\i=.int .i64 k/\Below w.heap.size w wr/\∀j (h:j<xs.length),j<k->Xx xs[j]=true)
  case atStart=>exact⟨0,jg _,by omega,rfl,iq _ _,fun j _ h=>absurd h (yu _)⟩
  case round =>
   obtain⟨k,hk,hg,rfl,hbl,hall⟩:=hrel;have HG:=ak hg;have HA:=ak hall;clear hg hall
   by_cases hlt:k<xs.length
   ·obtain⟨b,o,cs,rfl,_,hb,hcs,hc,hR⟩:=uh HX k hlt
    have hc:∀j (hj:j<cs.length),wr.cell? ⟨b,o+k*3+j,none⟩=some cs[j]:=fun j hj=>by rw[hbl.cell (p:=⟨b,_,none⟩) hb];exact hc j hj
    obtain⟨rfl,hsn,ho,hvl⟩:=hR;have c0:=hc 0 (by simp);have c1:=hc 1 (by simp);have c2:=hc 2 (by simp);simp only[jr,ji,og,ou] at c0 c1 c2;have HC:=ak (fun w=>apz xs[k] w hsn);clear hc hcs hsn ho hvl
    cases hp:Xx xs[k]
    ·have F:xs.all Xx=false:=by
      rw[List.all_eq_false];exact⟨xs[k],o7 hlt,by rw[hp];decide⟩
     have HF:=ak F;clear F;go_wp2_with fail;refine(uh HC _).mono ?_;rintro e w1 ⟨rfl,hb1⟩;rw[hp];go_wp2;go_ret;exact⟨zl (uh HF).symm,hbl.trans (((iq _ _).alloc hbl.size _).trans (hb1.mono (ku hbl.size (by simp))))⟩
    ·have A':∀j (h:j<xs.length),j<k+1->Xx xs[j]=true:=by
      intro j h h1
      by_cases e:j=k
      ·subst e;exact hp
      ·exact uh HA j h (by omega)
     have HA':=ak A';clear A';go_wp2_with fail;refine(uh HC _).mono ?_;rintro e w1 ⟨rfl,hb1⟩;rw[hp];go_wp2
     go_roundg (xs.length-(k+1))
     case measure=>have:=uh HG;omega
     case rel=>exact⟨k+1,by omega,rfl,by go_num,hbl.trans (((iq _ _).alloc hbl.size _).trans (hb1.mono (ku hbl.size (by simp)))),uh HA'⟩
   ·have e:k=xs.length:=by omega
    have T:xs.all Xx=true:=by
     rw[yc];intro x hx;obtain⟨j,hj,rfl⟩:=List.getElem_of_mem hx;exact uh HA j hj (by omega)
    have HT:=ak T;clear T;go_wp2;go_ret;exact⟨zl (uh HT).symm,hbl⟩
def fw:List l9->Int->Option Int
 | [],r=>some r
 | t::ts,r=>if r<U1 t.op then none else fw ts (r+(1-U1 t.op))
theorem avd (xs:List l9) (t:l9) (r:Int):fw (xs++[t]) r=(fw xs r).bind (fun q=>if q<U1 t.op then none else some (q+(1-U1 t.op))):=by
 induction xs generalizing r with
 | nil=>simp[fw]
 | cons x xs ih =>
  simp only[Ew,fw]
  split
  ·rfl
  ·exact ih _
theorem bbq (rev:List l9) (n:Nat):bk rev n=some 0↔(∀t,t∈rev->0<=U1 t.op)/\fw rev.reverse 0=some (n:Int):=by
 induction rev generalizing n with
 | nil =>
  cases n with
  | zero=>simp[bk,fw]
  | succ n =>
   simp[bk,fw];omega
 | cons t ts ih =>
  rw[List.reverse_cons,avd]
  cases n with
  | zero =>
   rw[aqu];constructor
   ·intro h;simp at h
   ·rintro⟨h1,h2⟩
    cases hq:fw ts.reverse 0 with
    | none=>rw[hq] at h2;simp at h2
    | some q =>
     rw[hq] at h2;simp at h2;omega
  | succ n =>
   simp only[bk]
   by_cases hneg:U1 t.op<0
   ·rw[gy hneg]
    constructor
    ·intro h;cases h
    ·rintro⟨h1,_⟩
     have:=h1 t (Hr ..);omega
   ·rw[bf hneg,ih]
    constructor
    ·rintro⟨h1,h2⟩
     refine⟨fun x hx=>?_,?_⟩
     ·rcases qj.1 hx with rfl|hx
      ·omega
      ·exact h1 x hx
     ·rw[h2]
      simp;omega
    ·rintro⟨h1,h2⟩
     refine⟨fun x hx=>h1 x (Gu _ hx),?_⟩
     cases hq:fw ts.reverse 0 with
     | none=>rw[hq] at h2;simp at h2
     | some q =>
      rw[hq] at h2;simp at h2;rw[uw];omega
theorem a3a (xs:List l9) (r:Int) (h:∀t,t∈xs->ocI t.op=U1 t.op):wk xs r=true↔fw xs r=some 1:=by
 induction xs generalizing r with
 | nil =>
  simp only[wk,fw];simp
 | cons t ts ih =>
  simp only[wk,fw];rw[h t (Hr ..)]
  by_cases hneg:r<U1 t.op
  ·rw[gy hneg,gy hneg];simp
  ·rw[bf hneg,bf hneg]
   exact ih _ (fun x hx=>h x (Gu _ hx))
theorem a3b (op:Int) (h:0<=U1 op):ocI op=U1 op:=by
 unfold U1 at *;unfold ocI
 by_cases h1:(1<=op/\op<=3)\/op=25
 ·rw[gy h1,gy (by omega)]
 ·rw[bf h1] at h
  rw[bf h1,bf (by omega)]
  by_cases h2:op=4\/op=5\/op=21\/op=22\/op=23
  ·rw[gy h2,gy h2]
  ·rw[bf h2] at h
   rw[bf h2,bf h2]
   by_cases h3:(6<=op/\op<=19)\/op=24
   ·rw[gy h3,bf (by omega)]
   ·rw[bf h3] at h
    rw[bf h3]
    by_cases h4:op=20
    ·rw[gy h4,gy h4]
    ·rw[bf h4] at h
     omega
theorem ave (op:Int):0<=U1 op↔1<=op/\op<=25:=by
 unfold U1
 by_cases h1:(1<=op/\op<=3)\/op=25
 ·rw[gy h1];omega
 ·rw[bf h1]
  by_cases h2:op=4\/op=5\/op=21\/op=22\/op=23
  ·rw[gy h2];omega
  ·rw[bf h2]
   by_cases h3:(6<=op/\op<=19)\/op=24
   ·rw[gy h3];omega
   ·rw[bf h3]
    by_cases h4:op=20
    ·rw[gy h4];omega
    ·rw[bf h4];omega
theorem a3s (xs:List l9):(bgI xs==0)=true↔bk xs.reverse 1=some 0:=by
 unfold bgI;rw[Ey]
 cases h:bk xs.reverse 1 with
 | none=>simp
 | some m=>simp
theorem avf (t:l9):itB t=true↔(1<=t.op/\t.op<=24)/\rgB t=true/\nmB t=true:=by
 simp[itB,and_assoc]
theorem agx (t:l9):Xx t=true↔nmB t=true/\(t.op=25\/rgB t=true):=by
 simp[Xx]
theorem Bv (a b c:dh):a++b++c=a++(b++c):=by
 apply ByteArray.ext;simp[ByteArray.data_append]
theorem afq (a:dh):a++ByteArray.empty=a:=by
 apply ByteArray.ext;simp[ByteArray.data_append]
theorem adl (a:dh):ByteArray.empty++a=a:=by
 apply ByteArray.ext;simp[ByteArray.data_append]
theorem Kz (a b:dh):(a++b).size=a.size+b.size:=by simp[ByteArray.size_append]
def Lsp:dh:=⟨#[32]⟩
def N7:dh:=⟨#[116,114,117,101]⟩
def Jw:dh:=⟨#[102,97,108,115,101]⟩
def sgT (op:Int):dh:=if op=18 then ⟨#[111,114]⟩ else if op=19 then ⟨#[120,111,114]⟩ else if op=17 then ⟨#[97,110,100]⟩ else if op=11 then ⟨#[61]⟩ else if op=12 then ⟨#[60,62]⟩ else if op=13 then ⟨#[60]⟩ else if op=14 then ⟨#[60,61]⟩ else if op=15 then ⟨#[62]⟩ else if op=16 then ⟨#[62,61]⟩ else if op=6 then ⟨#[43]⟩ else if op=7 then ⟨#[45]⟩ else if op=8 then ⟨#[42]⟩ else if op=9 then ⟨#[47]⟩ else if op=10 then ⟨#[109,111,100]⟩ else ⟨#[]⟩
theorem ayk (op:Int):(sgT op).size<=3:=by
 have hs:∀(c:Prop) [Decidable c] (a b:dh),a.size<=3->b.size<=3->(if c then a else b).size<=3:=by
  intro c _ a b ha hb
  split
  ·exact ha
  ·exact hb
 unfold sgT;refine hs _ _ _ (by decide) (hs _ _ _ (by decide) (hs _ _ _ (by decide) (hs _ _ _ (by decide) (hs _ _ _ (by decide) (hs _ _ _ (by decide) (hs _ _ _ (by decide) (hs _ _ _ (by decide) (hs _ _ _ (by decide) (hs _ _ _ (by decide) (hs _ _ _ (by decide) (hs _ _ _ (by decide) (hs _ _ _ (by decide) (hs _ _ _ (by decide) (by decide))))))))))))))
def qo (n:Int):dh:=⟨(Lib.itoa n).toArray⟩
def flT (v:Int):dh:=if v=0 then Jw else N7
def Fb (sep:dh) (xs:List dh):dh:=⟨(Lib.join (xs.map (·.data.toList)) sep.data.toList).toArray⟩
def szs (l:List dh):Nat:=(l.map (·.size)).sum
theorem aht (x:dh) (l:List dh):szs (x::l)=x.size+szs l:=by simp[szs]
theorem a6q (B:Nat) (l:List dh) (h:∀x,x∈l->x.size<=B):szs l<=B*l.length:=by
 induction l with
 | nil=>simp[szs]
 | cons x l ih =>
  rw[aht,ug,Nat.mul_succ];have h1:=h x (Hr ..);have h2:=ih (fun y hy=>h y (Gu _ hy));omega
theorem avg (s:dh) (h:nameB s=true):s.size<=40:=by
 simp only[nameB,Fz,Ir,Bool.or_eq_true,uy,D8] at h;omega
theorem a3c:∀(k u:Nat),u<10 ^ (k+1)->Lib.nDigits u<=k+1
 | 0,u,h=>by rw[Lib.nDigits_small (by simpa using h)];exact gu _
 | k+1,u,h=>by
  by_cases hs:u<10
  ·rw[Lib.nDigits_small hs];omega
  ·rw[Lib.nDigits_big hs]
   have:=a3c k (u / 10) (by rw[Nat.pow_succ] at h;omega);omega
theorem avh (u:Nat) (h:u<10000000000):(Lib.decDigits u).length<=10:=by
 rw[Lib.decDigits_eq];have:=a3c 9 u (by simpa using h);simpa using this
theorem ayl (v:Int):(flT v).size<=5:=by
 unfold flT
 split<;>decide
open Classical in
theorem agy (sep:dh):Fb sep []=ByteArray.empty:=rfl
theorem ane (sep:dh) (xs:List dh):(Lib.join (xs.map (·.data.toList)) sep.data.toList).length<=sep.size*xs.length+szs xs:=by
 cases xs with
 | nil=>simp[Lib.join_nil]
 | cons x xs =>
  rw[Ai,Lib.join_cons,jh,Lib.joinTail_length]
  have:Lib.lens (xs.map (·.data.toList))=szs xs:=by
   unfold Lib.lens szs;rw[List.map_map];rfl
  rw[this,aht,zy,ug,Nat.mul_succ];simp only[Array.length_toList];have e1:x.data.size=x.size:=rfl;have e2:sep.data.size=sep.size:=rfl;rw[e1,e2];omega
theorem ahu (sep:dh) (xs:List dh) (B:Nat) (h:∀x,x∈xs->x.size<=B):(Fb sep xs).size<=sep.size*xs.length+B*xs.length:=by
 have h1:=ane sep xs;have h2:=a6q B xs h;have:(Fb sep xs).size=(Lib.join (xs.map (·.data.toList)) sep.data.toList).length:=by simp[Fb,ByteArray.size]
 omega
theorem Ou (sep x:dh):Fb sep [x]=x:=by
 apply ByteArray.ext;simp[Fb,Lib.join_one]
theorem ahv (sep:dh) (xs:List dh) (k:Nat) (h:k<xs.length) (hk:1<=k):Fb sep (xs.take (k+1))=Fb sep (xs.take k)++sep++xs[k]:=by
 match xs,k,h,hk with
 | x::xs,k+1,h,_ =>
  apply ByteArray.ext;apply Array.ext'
  have hx:(xs.map (·.data.toList))[k]?=some (xs[k]'(by simpa using h)).data.toList:=by
   have:k<xs.length:=by simpa using h
   simp[this]
  have hj:=Lib.joinTail_take_succ sep.data.toList (xs.map (·.data.toList)) k _ hx;simp only[Fb,List.take_succ_cons,Ai,Lib.join_cons,ByteArray.data_append,ou,Array.toList_append];rw[List.map_take,List.map_take,hj];simp[Gl]
structure jw where
 name:dh
 type:Int
structure lu where
 kind:Int
 name:dh
 at_:Int
 au:List dh
 code:List l9
 args:List (List l9)
structure dw where
 name:dh
 ins:List jw
 au:List jw
 iw:List dh
 gq:List Int
 ay:List Int
 body:List lu
def Oq (_:Nat) (_:cu) (cs:List Value) (t:jw):Prop:=cs=[.string t.name,.int .i64 t.type]/\Len t.name.size/\I64 t.type
def Zq (lo:Nat) (w:cu) (cs:List Value) (t:lu):Prop:=∃o c a,cs=[.int .i64 t.kind,.string t.name,.int .i64 t.at_,o,c,a]/\Len t.name.size/\I64 t.kind/\I64 t.at_/\jc 1 16 xk lo w o t.au/\jc 3 32 Gg lo w c t.code/\jc 1 24 Ih lo w a t.args
def C9 (lo:Nat) (w:cu) (cs:List Value) (k:dw):Prop:=∃i o l m n b,cs=[.string k.name,i,o,l,m,n,b]/\Len k.name.size/\jc 2 24 Oq lo w i k.ins/\jc 2 24 Oq lo w o k.au/\jc 1 16 xk lo w l k.iw/\jc 1 8 Jv lo w m k.gq/\jc 1 8 Jv lo w n k.ay/\jc 6 104 Zq lo w b k.body
theorem Ii:P9 Oq:=fun _ _ _ _ _ _ h=>h
theorem Px:P9 Zq:=fun _ _ _ _ _ hb ⟨o,c,a,h1,h2,h3,h4,h5,h6,h7⟩=>⟨o,c,a,h1,h2,h3,h4,h5.kept zk hb,h6.kept Ad hb,h7.kept I8 hb⟩
theorem D9:P9 C9:=fun _ _ _ _ _ hb ⟨i,o,l,m,n,b,h1,h2,h3,h4,h5,h6,h7,h8⟩=>⟨i,o,l,m,n,b,h1,h2,h3.kept Ii hb,h4.kept Ii hb,h5.kept zk hb,h6.kept E8 hb,h7.kept E8 hb,h8.kept Px hb⟩
def Uh (t:jw):Nat:=t.name.size
def Nr (t:lu):Nat:=t.name.size+pz Qp t.au+pz Gh t.code+pz (pz Gh) t.args
def qy (k:dw):Nat:=k.name.size+pz Uh k.ins+pz Uh k.au+pz Qp k.iw+k.gq.length+k.ay.length+pz Nr k.body
end Go.Proofs.YtfeejeflmcapoaaGreatDoor
