import Derived.Test.YtfeejeflmcapoaaGreatDoorRG4
import Derived.Shelf.Strings.BuilderCap
import Derived.Shelf.Strings.Builder1
import Derived.Shelf.Small.Strs
import Derived.Shelf.Small.Wraps
import Derived.Shelf.Strings.BuilderF
import Derived.Shelf.Strings.BuilderK
import Derived.Shelf.Strconv.Atoi
import Derived.Shelf.Strconv.Itoa0
import Derived.Shelf.Strconv.Itoa1
import Derived.Shelf.LaysM
import Derived.Shelf.Strconv.Itoa2
import Derived.Shelf.Strconv.Itoa3
import Derived.Shelf.Strconv.AtoiErrFast
import Derived.Shelf.Strconv.ParseIntEmpty
import Derived.Shelf.Strconv.AtoiFail
import Derived.Shelf.Strconv.Clone
import Derived.Shelf.Strconv.SyntaxError
import Derived.Shelf.LaysC
import Derived.Shelf.Strconv.ToError
import Derived.Shelf.Strconv.Lower
import Derived.Shelf.Strconv.ParseUint10
import Derived.Shelf.Strconv.ParseUint10Empty
import Derived.Shelf.Strconv.ParseUint10Any
import Derived.Shelf.Strconv.ParseInt10
import Derived.Shelf.Strconv.AtoiLong
import Derived.Shelf.Strconv.AtoiInnerAll
import Derived.Shelf.Strconv.RangeError
import Derived.Shelf.Strconv.ToErrorRange
import Derived.Shelf.Strconv.AtoiAll
import Derived.Shelf.Strings.Search1
import Derived.Shelf.Strings.Search2
import Derived.Shelf.Strings.Search3
import Derived.Shelf.Strings.Count
import Derived.Shelf.Strings.Shaped
import Derived.Shelf.Strings.Prefix
import Derived.Shelf.Strings.Split
import Derived.Shelf.Unicode.DecodeSlow
import Derived.Test.YtfeejeflmcapoaaGreatDoorProg
import Derived.Test.YtfeejeflmcapoaaGreatDoorPS1
import Derived.Test.YtfeejeflmcapoaaGreatDoorRG1
import Derived.Deep.MidRow
set_option linter.unusedSimpArgs false
set_option linter.unusedVariables false
set_option maxHeartbeats 1000000
namespace Go.Proofs.YtfeejeflmcapoaaGreatDoor
open Go.RowKit
theorem aiy (p:dh):(Hq p).name.size<=p.size:=by
 have hz:(Ko p).size<=p.size:=by
  rw[←Ez,←Ez p];unfold Ko;rw[Zi,Dh];omega
 unfold Hq
 split
 ·exact hz
 split
 ·exact jg _
 split
 ·exact jg _
 split
 ·exact jg _
 split<;>exact jg _
theorem bau (p:dh):0<=V6 p∧V6 p<=20:=by
 unfold V6
 cases h:(List.range 17).find? (fun i=>decide (Dq i=p)) with
 | none=>simp only;omega
 | some i =>
  have h9:=uw.1 (List.mem_of_find?_eq_some h);simp only;omega
theorem apk (p:dh) (h:p.size<=1048576):Len (Hq p).name.size∧I64 (Hq p).op∧I64 (Hq p).val:=by
 have h1:=aiy p;have h2:=bau p;have h3:=aeb p;have h4:=aeb (Ko p);refine⟨by unfold Len;omega,?_⟩;unfold Hq;unfold I64 at *
 split
 ·exact⟨by simp only;omega,by simp only;omega⟩
 split
 ·exact⟨by simp only;omega,h4⟩
 split
 ·exact⟨by simp only;omega,by simp only;omega⟩
 split
 ·exact⟨by simp only;omega,by simp only;omega⟩
 split
 ·exact⟨by simp only;omega,h3⟩
 ·exact⟨by simp only;omega,by simp only;omega⟩
theorem agr {α:Type} (g:α->Nat) (x:α) (xs:List α):oq g (x::xs)=1+g x+oq g xs:=by
 unfold oq;simp only[Ap,uf,List.sum_cons];omega
theorem a6d (ps:List dh):oq Gq (Bf ps)<=D9 ps:=by
 induction ps with
 | nil=>simp[Bf,oq,D9]
 | cons p ps ih =>
  have h:=aiy p;have e:Bf (p::ps)=Hq p::Bf ps:=rfl;rw[e,agr,Nz];unfold Gq at *;omega
def AW (ps:List dh):Nat:=((cutAt Cb ps).map (fun l=>1+oq Gq (Bf l))).sum
theorem aru (x:dh) (r:List dh):AW (x::r)=if x=Cb then 1+AW r else 1+Gq (Hq x)+AW r:=by
 unfold AW;rw[cutAt]
 by_cases h:x=Cb
 ·rw[gu h,gu h]
  simp[Bf,oq]
 ·rw[ay h,ay h]
  have e:=Uh Cb r;generalize cutAt Cb r=ls at e;rw[e];simp only[Ap,List.sum_cons,List.headD_cons,List.tail_cons];have e2:Bf (x::ls.headD [])=Hq x::Bf (ls.headD []):=rfl;rw[e2,agr];omega
theorem a3w (ps:List dh):AW ps<=D9 ps+1:=by
 induction ps with
 | nil=>exact gq _
 | cons p ps ih =>
  rw[aru,Nz];have h:=aiy p;unfold Gq
  split<;>omega
theorem apl (l:List Nat):l.dropLast.sum<=l.sum:=by
 rcases List.eq_nil_or_concat l with rfl|⟨b,x,rfl⟩
 ·simp
 ·rw[List.concat_eq_append,List.dropLast_concat,List.sum_append]
  omega
theorem apm {α:Type} (g:List α->Nat) (ls:List (List α)):((Ut ls).map g).sum<=(ls.map g).sum:=by
 unfold Ut
 split
 ·rw[List.map_dropLast]
  exact apl _
 ·exact gq _
theorem arv (ps:List dh):oq (oq Gq) (P7 ps)<=AW ps:=by
 unfold P7 AW;refine jq ?_ (apm _ _);generalize Ut (cutAt Cb ps)=ls
 induction ls with
 | nil=>simp[oq]
 | cons l ls ih =>
  rw[Ap,agr,Ap,List.sum_cons];omega
theorem a6e (cs:List dw) (f:List dh) (k:dw) (hne:f≠[]):qx (Jh cs f k)<=qx k+D9 f:=by
 obtain⟨x,f',hx⟩:∃x f',f=x::f':=by
  cases f with
  | nil=>exact absurd rfl hne
  | cons x f'=>exact⟨x,f',rfl⟩
 have z:oq Qw []=0∧oq Gq []=0∧oq (oq Gq) []=0:=by decide
 have zn:E0.size=0:=rfl;have hl:1<=f.length:=by rw[hx];simp
 have p0:=(Qr f 0).2 (by omega);have d0:D9 (f.drop 0)=D9 f:=rfl
 have q1:(fA f 1).size<=D9 (f.drop 1):=by
  by_cases c:1<f.length
  ·have:=(Qr f 1).2 c;omega
  ·have e:fA f 1=E0:=by unfold fA;rw[yw,List.getElem?_eq_none (by omega)];rfl
   rw[e,zn];omega
 have q2:(fA f 1).size+D9 (f.drop 3)<=D9 (f.drop 1):=by
  by_cases c:1<f.length
  ·have h1:=(Qr f 1).2 c
   have h2:=aix (f.drop 2) 1;rw[List.drop_drop] at h2;simp only[Nat.reduceAdd] at h1 h2;omega
  ·have e:f.drop 3=[]:=List.drop_eq_nil_of_le (by omega)
   rw[e,ak7];omega
 have q3:=a6d (f.drop 3);simp only[Bh] at p0;have one:1+(fA f 1).size<=D9 f:=by omega
 unfold Jh
 by_cases h1:fA f 0=Ik
 ·rw[gu h1]
  simp only[qx,Am,Ul,Ll];omega
 rw[ay h1]
 by_cases h2:fA f 0=Ee
 ·rw[gu h2]
  simp only[qx,Am,Ul,Ll];omega
 rw[ay h2]
 by_cases h3:fA f 0=Eo
 ·rw[gu h3]
  simp only[qx,Am,Qw];omega
 rw[ay h3]
 by_cases h4:fA f 0=Ep
 ·rw[gu h4]
  simp only[qx,je,uf,A8];omega
 rw[ay h4]
 by_cases h5:fA f 0=Es
 ·rw[gu h5]
  simp only[qx,je,uf,A8];omega
 rw[ay h5]
 by_cases h6:fA f 0=Pz
 ·rw[gu h6];omega
 rw[ay h6];unfold N8
 by_cases c1:fA f 0=Jf
 ·rw[gu c1]
  simp only[Dw,qx,Am,Nv,z.1,z.2.2];omega
 rw[ay c1]
 by_cases c2:fA f 0=F8
 ·rw[gu c2]
  simp only[Dw,qx,Am,Nv,z.1,z.2.2,zn];omega
 rw[ay c2]
 by_cases c3:fA f 0=Ac
 ·rw[gu c3]
  have hc0:(fA f 0).size=4:=by rw[c3];rfl
  unfold adg;have pl:=Yc f ou
  by_cases c:0<=jd f ou
  ·obtain⟨j,hj⟩:=H8 c
   rw[hj] at pl ⊢;simp only[En];rw[show ((j:Int)+1).toNat=j+1 from by omega];have a0:=arv (f.drop (j+1));have a1:=a3w (f.drop (j+1));have a5:=axl (vw f 2 j)
   have a6:D9 (vw f 2 j)+D9 (f.drop (j+1))<=D9 (f.drop 1):=by
    have h9:=aix (f.drop 1) 1;rw[List.drop_drop] at h9;simp only[Nat.reduceAdd] at h9
    by_cases g:2<=j
    ·have a2:=a3v f 2 j g
     have a3:=(Qr f j).2 (by omega);omega
    ·have e:vw f 2 j=[]:=by unfold vw;rw[show j-2=0 from by omega];rfl
     have a3:=aix (f.drop 1) j;rw[List.drop_drop,show 1+j=j+1 from by omega] at a3;rw[e,ak7];omega
   simp only[Dw,qx,Am,Nv,z.2.1,zn,a5];omega
  ·have hj:jd f ou = -1:=by
    unfold jd at c ⊢;revert c
    cases f.findIdx? (fun x=>x.toList == ou.toList) with
    | none=>intro _;rfl
    | some i=>intro c;exact absurd (Int.natCast_nonneg i) c
   rw[hj];have e1:vw f 2 (-1:Int).toNat=[]:=rfl;have e2:f.drop (-1+1:Int).toNat=f:=rfl;rw[e1,e2];have a0:=arv f;have hx0:x=Ac:=by rw[←c3,hx];rfl
   have a1:AW f<=D9 (f.drop 1)+2:=by
    rw[hx,aru,ay (by rw[hx0];decide)];have e3:Gq (Hq x)=0:=by rw[hx0];decide
    have a2:=a3w f';rw[e3];simp only[List.drop_succ_cons,List.drop_zero];omega
   simp only[Dw,qx,Am,Nv,z.1,z.2.1,zn];omega
 rw[ay c3]
 by_cases c4:fA f 0=Qn
 ·rw[gu c4]
  simp only[Dw,qx,Am,Nv,z.1,z.2.1,z.2.2];omega
 rw[ay c4]
 split
 ·simp only[Dw,qx,Am,Nv,z.1,z.2.1,z.2.2,zn];omega
 split
 ·simp only[Dw,qx,Am,Nv,z.1,z.2.1,z.2.2,zn];omega
 ·simp only[Dw,qx,Am,Nv,z.1,z.2.1,z.2.2,zn];omega
def WG (cs:List dw):Nat:=if cs=[] then 0 else oq qx cs+5
theorem ahh (a:List dw) (k:dw):WG (a++[k])=oq qx (a++[k])+5:=by
 unfold WG;rw[ay (by simp)]
theorem auj (cs:List dw):oq qx cs<=WG cs:=by
 unfold WG
 split
 ·rename_i h
  rw[h];simp[oq]
 ·omega
theorem a3x (cs:List dw) (g:dw->dw) (n:Nat) (h:∀k,qx (g k)<=qx k+n):WG (upL cs g)<=WG cs+n:=by
 rcases List.eq_nil_or_concat cs with rfl|⟨a,k,rfl⟩
 ·rw[ak5];omega
 ·rw[List.concat_eq_append,Ae,ahh,ahh,Am,Am]
  have:=h k;omega
theorem arw (cs:List dw) (cu:dh):WG (Nb cs cu)<=WG cs+cu.size+1:=by
 have hne:=Aj 32 cu;have hps:D9 (wordsOf 32 cu)=cu.size+1:=(yg 32 cu).2;unfold Nb Vf;generalize wordsOf 32 cu=f at *
 by_cases hc:fA f 0=vg
 ·rw[gu hc,ahh,Am]
  have hl:1<=f.length:=Bg.2 hne;have p0:=(Qr f 0).2 (by omega)
  have q1:(fA f 1).size<=D9 (f.drop 1):=by
   by_cases c:1<f.length
   ·have:=(Qr f 1).2 c;omega
   ·have e:fA f 1=E0:=by unfold fA;rw[yw,List.getElem?_eq_none (by omega)];rfl
    rw[e];exact jg _
  have d0:D9 (f.drop 0)=D9 f:=rfl;have e:qx (K0 (fA f 1))=(fA f 1).size:=rfl;have z0:(fA f 0).size=5:=by rw[hc];rfl
  have h9:=auj cs;simp only[Bh] at p0;omega
 ·rw[ay hc]
  have h9:=a3x cs (Jh cs f) (D9 f) (fun k=>a6e cs f k hne);omega
theorem a1w (cs:List dw) (cu:dh):WG (stepS cs cu)<=WG cs+cu.size+1:=by
 have hne:=Aj 32 cu;have hps:D9 (wordsOf 32 cu)=cu.size+1:=(yg 32 cu).2;have hcl:=aj7 cu;unfold stepS Iz;generalize wordsOf 32 cu=f at *
 by_cases hc:fA f 0=vg∧f.length=2
 ·rw[gu hc,Ae,ami _ _ _ _ hc.1 (hcl hc.1).1 (hcl hc.1).2,ahh,Am]
  have p0:=(Qr f 0).2 (by omega);have p1:=(Qr f 1).2 (by omega);have d0:D9 (f.drop 0)=D9 f:=rfl;have e:qx (K0 (fA f 1))=(fA f 1).size:=rfl;have z0:(fA f 0).size=5:=by rw[hc.1];rfl
  have h9:=auj cs;simp only[Bh,Nat.reduceAdd] at p0 p1;omega
 ·rw[ay hc]
  have h9:=a3x cs (lineS cs cu f) (D9 f) (fun k=>arq cs cu f k hne);omega
theorem ak9 (st:List dw->dh->List dw) (h:∀cs l,WG (st cs l)<=WG cs+l.size+1) (ls:List dh):∀cs,WG (ls.foldl st cs)<=WG cs+D9 ls:=by
 induction ls with
 | nil=>intro cs;exact Nat.le_add_right _ _
 | cons l ls ih =>
  intro cs;rw[List.foldl_cons,Nz];have h1:=ih (st cs l);have h2:=h cs l;omega
theorem axt (cs:List dw) (n:Nat) (h:WG cs<=n+1):oq qx cs<=n:=by
 unfold WG at h
 split at h
 ·rename_i e
  rw[e];simp[oq]
 ·omega
theorem alx (t:dh):oq qx (Ns t)<=t.size:=by
 have h:=ak9 stepS a1w (wordsOf 10 t) [];have h2:D9 (wordsOf 10 t)=t.size+1:=(yg 10 t).2;have h3:WG ([]:List dw)=0:=rfl;refine axt _ _ ?_;unfold Ns;omega
theorem agt (t:dh):D9 (Hl t)<=t.size+1:=by
 have h:=(af2 10 (bL t)).2;have h2:=apm (fun p:List UInt8=>p.length+1) (cutAt 10 (bL t));unfold D9 Hl;rw[List.map_map]
 have e:((fun p:dh=>p.size+1) ∘ Qv)=fun p:List UInt8=>p.length+1:=by
  funext p;show (Qv p).size+1=_;rw[←Ez,Zi]
 rw[e];rw[Ez] at h;omega
theorem a1x (t:dh):oq qx (Ou t)<=t.size:=by
 have h:=ak9 Nb arw (Hl t) [];have h2:=agt t;have h3:WG ([]:List dw)=0:=rfl;refine axt _ _ ?_;unfold Ou;omega
def Xl (ks:List dw):dh:=if Py ks=true then Gi (Ho ks) else ByteArray.empty
theorem axu (t:dh) (ht:t≠ByteArray.empty):(Xl (Ns t)=t↔Xl (Ou t)=t)∧(Xl (Ns t)=t->Ou t=Ns t):=by
 have key:∀ks:List dw,Xl ks=t->Py ks=true∧t=Gi (Ho ks):=fun ks h=>by
  unfold Xl at h
  by_cases c:Py ks=true
  ·rw[gu c] at h
   exact⟨c,h.symm⟩
  ·rw[ay c] at h
   exact absurd h.symm ht
 have h1:Xl (Ns t)=t->Ou t=Ns t:=fun h=>by
  obtain⟨a,b⟩:=key _ h;generalize Ns t=ks at a b;rw[b,aph a]
 have h2:Xl (Ou t)=t->Ns t=Ou t:=fun h=>by
  obtain⟨a,b⟩:=key _ h;generalize Ou t=ks at a b;rw[b,aoi a]
 exact⟨⟨fun h=>by rw[h1 h];exact h,fun h=>by rw[h2 h];exact h⟩,h1⟩
namespace Go.Proofs
open Go.Shelf
def Tryz.lays103_ren:Go.Shelf.Ren:=⟨fun|103=>118|210=>140|206=>165|n=>n,fun|9=>9|4=>4|24=>141|3=>3|n=>n,fun|n=>n⟩
theorem Tryz.lays103:Go.Proofs.Lays.n103 Tryz.prog Tryz.lays103_ren:={
 mixed:=by kernel_rfl
 f103:=Tryz.func118.trans (mg some (by kernel_rfl))
 f206:=Tryz.func165.trans (mg some (by kernel_rfl))
 f210:=Tryz.func140.trans (mg some (by kernel_rfl))
 t3:=Tryz.underlying3
 a3:=Tryz.isAgg3
 z3:=Tryz.sizeOf3
 v3:=Tryz.zeroValue3
 t4:=Tryz.underlying4
 a4:=Tryz.isAgg4
 z4:=Tryz.sizeOf4
 v4:=Tryz.zeroValue4
 t9:=Tryz.underlying9
 a9:=Tryz.isAgg9
 z9:=Tryz.sizeOf9
 v9:=Tryz.zeroValue9
 t24:=Tryz.underlying141
 a24:=Tryz.isAgg141
 z24:=Tryz.sizeOf141
 v24:=Tryz.zeroValue141 }
open Go.RowKit in
theorem Tryz.strings_CutPrefix (s p:dh) (w:bf) :
  Calls Tryz.prog 118 #[.string s,.string p] w fun e w'=>e=.returned (.tuple #[.string ⟨(Lib.trimPrefix s.data.toList p.data.toList).toArray⟩,.bool (Lib.hasPrefix s.data.toList p.data.toList)])∧w'=w:=Any.strings_CutPrefix Tryz.lays103 s p w
def Tryz.laysM171_ren:Go.Shelf.Ren:=⟨fun|171=>69|243=>101|246=>130|283=>154|284=>155|285=>156|286=>157|129=>173|317=>172|318=>174|319=>175|320=>176|337=>183|338=>184|n=>n,fun|3=>3|9=>9|2=>2|4=>4|171=>185|0=>0|53=>153|37=>64|5=>5|173=>188|212=>204|51=>166|20=>20|213=>205|46=>143|232=>228|233=>229|n=>n,fun|17=>6|18=>7|19=>8|n=>n⟩
theorem Tryz.laysM171:Go.Proofs.LaysM.n171 Tryz.prog Tryz.laysM171_ren:={
 mixed:=by kernel_rfl
 f129:=Tryz.func173.trans (mg some (by kernel_rfl))
 f171:=Tryz.func69.trans (mg some (by kernel_rfl))
 f243:=Tryz.func101.trans (mg some (by kernel_rfl))
 f246:=Tryz.func130.trans (mg some (by kernel_rfl))
 f283:=Tryz.func154.trans (mg some (by kernel_rfl))
 f284:=Tryz.func155.trans (mg some (by kernel_rfl))
 f285:=Tryz.func156.trans (mg some (by kernel_rfl))
 f286:=Tryz.func157.trans (mg some (by kernel_rfl))
 f317:=Tryz.func172.trans (mg some (by kernel_rfl))
 f318:=Tryz.func174.trans (mg some (by kernel_rfl))
 f319:=Tryz.func175.trans (mg some (by kernel_rfl))
 f320:=Tryz.func176.trans (mg some (by kernel_rfl))
 f337:=Tryz.func183.trans (mg some (by kernel_rfl))
 f338:=Tryz.func184.trans (mg some (by kernel_rfl))
 t0:=Tryz.underlying0
 a0:=Tryz.isAgg0
 z0:=Tryz.sizeOf0
 v0:=Tryz.zeroValue0
 t2:=Tryz.underlying2
 a2:=Tryz.isAgg2
 z2:=Tryz.sizeOf2
 v2:=Tryz.zeroValue2
 t3:=Tryz.underlying3
 a3:=Tryz.isAgg3
 z3:=Tryz.sizeOf3
 v3:=Tryz.zeroValue3
 t4:=Tryz.underlying4
 a4:=Tryz.isAgg4
 z4:=Tryz.sizeOf4
 v4:=Tryz.zeroValue4
 t5:=Tryz.underlying5
 a5:=Tryz.isAgg5
 z5:=Tryz.sizeOf5
 v5:=Tryz.zeroValue5
 t9:=Tryz.underlying9
 a9:=Tryz.isAgg9
 z9:=Tryz.sizeOf9
 v9:=Tryz.zeroValue9
 t20:=Tryz.underlying20
 a20:=Tryz.isAgg20
 z20:=Tryz.sizeOf20
 v20:=Tryz.zeroValue20
 t37:=Tryz.underlying64
 a37:=Tryz.isAgg64
 z37:=Tryz.sizeOf64
 v37:=Tryz.zeroValue64
 t46:=Tryz.underlying143
 a46:=Tryz.isAgg143
 z46:=Tryz.sizeOf143
 v46:=Tryz.zeroValue143
 t51:=Tryz.underlying166
 a51:=Tryz.isAgg166
 z51:=Tryz.sizeOf166
 v51:=Tryz.zeroValue166
 t53:=Tryz.underlying153
 a53:=Tryz.isAgg153
 z53:=Tryz.sizeOf153
 v53:=Tryz.zeroValue153
 t171:=Tryz.underlying185
 a171:=Tryz.isAgg185
 z171:=Tryz.sizeOf185
 v171:=Tryz.zeroValue185
 t173:=Tryz.underlying188
 a173:=Tryz.isAgg188
 z173:=Tryz.sizeOf188
 v173:=Tryz.zeroValue188
 t212:=Tryz.underlying204
 a212:=Tryz.isAgg204
 z212:=Tryz.sizeOf204
 v212:=Tryz.zeroValue204
 t213:=Tryz.underlying205
 a213:=Tryz.isAgg205
 z213:=Tryz.sizeOf205
 t232:=Tryz.underlying228
 a232:=Tryz.isAgg228
 z232:=Tryz.sizeOf228
 v232:=Tryz.zeroValue228
 t233:=Tryz.underlying229
 a233:=Tryz.isAgg229
 z233:=Tryz.sizeOf229
 v233:=Tryz.zeroValue229
 g17:=by kernel_rfl
 g18:=by kernel_rfl
 g19:=by kernel_rfl
 i0:=by kernel_rfl
 i2:=by kernel_rfl
 i3:=by kernel_rfl
 i4:=by kernel_rfl
 i5:=by kernel_rfl
 i9:=by kernel_rfl
 i20:=by kernel_rfl
 i37:=by kernel_rfl
 i46:=by kernel_rfl
 i51:=by kernel_rfl
 i53:=by kernel_rfl
 i171:=by kernel_rfl
 i173:=by kernel_rfl
 i212:=by kernel_rfl
 i232:=by kernel_rfl
 i233:=by kernel_rfl
 m17:=by kernel_rfl
 m18:=by kernel_rfl
 m19:=by kernel_rfl }
open Go.RowKit Go.Sort Go.Lib in
theorem Tryz.strconv_Itoa (n : Int) (h0 : -9223372036854775808 ≤ n) (h1 : n ≤ 9223372036854775807) (w : bf) (htab : Lib.TabIs Tryz.prog w "internal/strconv.uint64pow10" .u64 Lib.pow10Tab) :
  Calls Tryz.prog 69 #[.int .i64 n] w fun e w'=>e=.returned (.string ⟨(Lib.itoa n).toArray⟩)∧∃k os,w'=grow (w.drewN k) os:=Any.strconv_Itoa Tryz.laysM171 n h0 h1 w htab
def Tryz.laysC172_ren:Go.Shelf.Ren:=⟨fun|172=>59|244=>90|245=>91|247=>113|279=>114|280=>115|281=>116|282=>117|287=>138|316=>89|171=>69|205=>139|321=>163|322=>164|243=>101|246=>130|283=>154|284=>155|285=>156|286=>157|129=>173|317=>172|318=>174|319=>175|320=>176|337=>183|338=>184|n=>n,fun|9=>9|3=>3|75=>91|76=>92|4=>4|5=>5|167=>135|37=>64|0=>0|85=>136|2=>2|168=>138|53=>153|175=>154|46=>143|210=>157|127=>101|145=>195|143=>193|21=>21|171=>185|173=>188|212=>204|51=>166|20=>20|213=>205|232=>228|233=>229|80=>75|n=>n,fun|15=>1|16=>2|17=>6|18=>7|19=>8|n=>n⟩
theorem Tryz.laysC172:Go.Proofs.LaysC.n172 Tryz.prog Tryz.laysC172_ren:={
 mixed:=by kernel_rfl
 f129:=Tryz.func173.trans (mg some (by kernel_rfl))
 f171:=Tryz.func69.trans (mg some (by kernel_rfl))
 f172:=Tryz.func59.trans (mg some (by kernel_rfl))
 f205:=Tryz.func139.trans (mg some (by kernel_rfl))
 f243:=Tryz.func101.trans (mg some (by kernel_rfl))
 f244:=Tryz.func90.trans (mg some (by kernel_rfl))
 f245:=Tryz.func91.trans (mg some (by kernel_rfl))
 f246:=Tryz.func130.trans (mg some (by kernel_rfl))
 f247:=Tryz.func113.trans (mg some (by kernel_rfl))
 f279:=Tryz.func114.trans (mg some (by kernel_rfl))
 f280:=Tryz.func115.trans (mg some (by kernel_rfl))
 f281:=Tryz.func116.trans (mg some (by kernel_rfl))
 f282:=Tryz.func117.trans (mg some (by kernel_rfl))
 f283:=Tryz.func154.trans (mg some (by kernel_rfl))
 f284:=Tryz.func155.trans (mg some (by kernel_rfl))
 f285:=Tryz.func156.trans (mg some (by kernel_rfl))
 f286:=Tryz.func157.trans (mg some (by kernel_rfl))
 f287:=Tryz.func138.trans (mg some (by kernel_rfl))
 f316:=Tryz.func89.trans (mg some (by kernel_rfl))
 f317:=Tryz.func172.trans (mg some (by kernel_rfl))
 f318:=Tryz.func174.trans (mg some (by kernel_rfl))
 f319:=Tryz.func175.trans (mg some (by kernel_rfl))
 f320:=Tryz.func176.trans (mg some (by kernel_rfl))
 f321:=Tryz.func163.trans (mg some (by kernel_rfl))
 f322:=Tryz.func164.trans (mg some (by kernel_rfl))
 f337:=Tryz.func183.trans (mg some (by kernel_rfl))
 f338:=Tryz.func184.trans (mg some (by kernel_rfl))
 t0:=Tryz.underlying0
 a0:=Tryz.isAgg0
 z0:=Tryz.sizeOf0
 v0:=Tryz.zeroValue0
 t2:=Tryz.underlying2
 a2:=Tryz.isAgg2
 z2:=Tryz.sizeOf2
 v2:=Tryz.zeroValue2
 t3:=Tryz.underlying3
 a3:=Tryz.isAgg3
 z3:=Tryz.sizeOf3
 v3:=Tryz.zeroValue3
 t4:=Tryz.underlying4
 a4:=Tryz.isAgg4
 z4:=Tryz.sizeOf4
 v4:=Tryz.zeroValue4
 t5:=Tryz.underlying5
 a5:=Tryz.isAgg5
 z5:=Tryz.sizeOf5
 v5:=Tryz.zeroValue5
 t9:=Tryz.underlying9
 a9:=Tryz.isAgg9
 z9:=Tryz.sizeOf9
 v9:=Tryz.zeroValue9
 t20:=Tryz.underlying20
 a20:=Tryz.isAgg20
 z20:=Tryz.sizeOf20
 v20:=Tryz.zeroValue20
 t21:=Tryz.underlying21
 a21:=Tryz.isAgg21
 z21:=Tryz.sizeOf21
 v21:=Tryz.zeroValue21
 t37:=Tryz.underlying64
 a37:=Tryz.isAgg64
 z37:=Tryz.sizeOf64
 v37:=Tryz.zeroValue64
 t46:=Tryz.underlying143
 a46:=Tryz.isAgg143
 z46:=Tryz.sizeOf143
 v46:=Tryz.zeroValue143
 t51:=Tryz.underlying166
 a51:=Tryz.isAgg166
 z51:=Tryz.sizeOf166
 v51:=Tryz.zeroValue166
 t53:=Tryz.underlying153
 a53:=Tryz.isAgg153
 z53:=Tryz.sizeOf153
 v53:=Tryz.zeroValue153
 t75:=Tryz.underlying91
 a75:=Tryz.isAgg91
 z75:=Tryz.sizeOf91
 v75:=Tryz.zeroValue91
 t76:=Tryz.underlying92
 a76:=Tryz.isAgg92
 z76:=Tryz.sizeOf92
 v76:=Tryz.zeroValue92
 t85:=Tryz.underlying136
 a85:=Tryz.isAgg136
 z85:=Tryz.sizeOf136
 v85:=Tryz.zeroValue136
 t127:=Tryz.underlying101
 a127:=Tryz.isAgg101
 z127:=Tryz.sizeOf101
 v127:=Tryz.zeroValue101
 t143:=Tryz.underlying193
 a143:=Tryz.isAgg193
 z143:=Tryz.sizeOf193
 v143:=Tryz.zeroValue193
 t145:=Tryz.underlying195
 a145:=Tryz.isAgg195
 z145:=Tryz.sizeOf195
 v145:=Tryz.zeroValue195
 t167:=Tryz.underlying135
 a167:=Tryz.isAgg135
 z167:=Tryz.sizeOf135
 v167:=Tryz.zeroValue135
 t168:=Tryz.underlying138
 a168:=Tryz.isAgg138
 z168:=Tryz.sizeOf138
 v168:=Tryz.zeroValue138
 t171:=Tryz.underlying185
 a171:=Tryz.isAgg185
 z171:=Tryz.sizeOf185
 v171:=Tryz.zeroValue185
 t173:=Tryz.underlying188
 a173:=Tryz.isAgg188
 z173:=Tryz.sizeOf188
 v173:=Tryz.zeroValue188
 t175:=Tryz.underlying154
 a175:=Tryz.isAgg154
 z175:=Tryz.sizeOf154
 v175:=Tryz.zeroValue154
 t210:=Tryz.underlying157
 a210:=Tryz.isAgg157
 z210:=Tryz.sizeOf157
 v210:=Tryz.zeroValue157
 t212:=Tryz.underlying204
 a212:=Tryz.isAgg204
 z212:=Tryz.sizeOf204
 v212:=Tryz.zeroValue204
 t213:=Tryz.underlying205
 a213:=Tryz.isAgg205
 z213:=Tryz.sizeOf205
 t232:=Tryz.underlying228
 a232:=Tryz.isAgg228
 z232:=Tryz.sizeOf228
 v232:=Tryz.zeroValue228
 t233:=Tryz.underlying229
 a233:=Tryz.isAgg229
 z233:=Tryz.sizeOf229
 v233:=Tryz.zeroValue229
 g15:=by kernel_rfl
 g16:=by kernel_rfl
 g17:=by kernel_rfl
 g18:=by kernel_rfl
 g19:=by kernel_rfl
 t80:=Tryz.underlying75
 a80:=Tryz.isAgg75
 z80:=Tryz.sizeOf75
 v80:=Tryz.zeroValue75
 i0:=by kernel_rfl
 i2:=by kernel_rfl
 i3:=by kernel_rfl
 i4:=by kernel_rfl
 i5:=by kernel_rfl
 i9:=by kernel_rfl
 i20:=by kernel_rfl
 i21:=by kernel_rfl
 i37:=by kernel_rfl
 i46:=by kernel_rfl
 i51:=by kernel_rfl
 i53:=by kernel_rfl
 i75:=by kernel_rfl
 i76:=by kernel_rfl
 i80:=by kernel_rfl
 i85:=by kernel_rfl
 i127:=by kernel_rfl
 i143:=by kernel_rfl
 i145:=by kernel_rfl
 i167:=by kernel_rfl
 i168:=by kernel_rfl
 i171:=by kernel_rfl
 i173:=by kernel_rfl
 i175:=by kernel_rfl
 i210:=by kernel_rfl
 i212:=by kernel_rfl
 i232:=by kernel_rfl
 i233:=by kernel_rfl
 m15:=by kernel_rfl
 m16:=by kernel_rfl
 m17:=by kernel_rfl
 m18:=by kernel_rfl
 m19:=by kernel_rfl
 c0:=by kernel_rfl
 c2:=by kernel_rfl
 c3:=by kernel_rfl
 c4:=by kernel_rfl
 c5:=by kernel_rfl
 c9:=by kernel_rfl
 c20:=by kernel_rfl
 c21:=by kernel_rfl
 c37:=by kernel_rfl
 c46:=by kernel_rfl
 c51:=by kernel_rfl
 c53:=by kernel_rfl
 c75:=by kernel_rfl
 c76:=by kernel_rfl
 c80:=by kernel_rfl
 c85:=by kernel_rfl
 c127:=by kernel_rfl
 c143:=by kernel_rfl
 c145:=by kernel_rfl
 c167:=by kernel_rfl
 c168:=by kernel_rfl
 c171:=by kernel_rfl
 c173:=by kernel_rfl
 c175:=by kernel_rfl
 c210:=by kernel_rfl
 c212:=by kernel_rfl
 c213:=by kernel_rfl
 c232:=by kernel_rfl
 c233:=by kernel_rfl }
theorem Tryz.strconv_Atoi_ok (s:dh) (hmax:s.size<=9223372036854775806) (v:Int) (h:Lib.atoiAll s.data.toList=.ok v) (w:bf) :
  Calls Tryz.prog 59 #[.string s] w fun e w'=>e=.returned (.tuple #[.int .i64 v,.nilIface])∧(w'=w∨∃t,w'=Lib.bytesWorld w 5 t):=Any.strconv_Atoi_ok Tryz.laysC172 s hmax v h w
theorem Tryz.strconv_Atoi_syntax (s:dh) (hlim:s.size<=281474976710656) (h:Lib.atoiAll s.data.toList=.«syntax») (ev:Value) (w:bf) (hv:w.cell? ⟨1,0,none⟩=some ev) (hev:ev=.nilIface∨∃te pe,ev=.iface te pe) :
  Calls Tryz.prog 59 #[.string s] w fun e w'=>∃N,e=.returned (.tuple #[.int .i64 (0),.iface 138 (.pointer (some ⟨N,0,none⟩))])∧w.heap.size<=N∧w'.heap[N]?=some (.cells #[.string ⟨#[65,116,111,105]⟩,.string s,ev] 157 (0,0))∧Below w.heap.size w w':=Any.strconv_Atoi_syntax Tryz.laysC172 s hlim h ev w hv hev
theorem Tryz.strconv_Atoi_range (s:dh) (hlim:s.size<=281474976710656) (h:Lib.atoiAll s.data.toList=.range) (ev:Value) (w:bf) (hv:w.cell? ⟨2,0,none⟩=some ev) (hev:ev=.nilIface∨∃te pe,ev=.iface te pe) :
  Calls Tryz.prog 59 #[.string s] w fun e w'=>∃N,e=.returned (.tuple #[.int .i64 (Lib.atoiSat s.data.toList),.iface 138 (.pointer (some ⟨N,0,none⟩))])∧w.heap.size<=N∧w'.heap[N]?=some (.cells #[.string ⟨#[65,116,111,105]⟩,.string s,ev] 157 (0,0))∧Below w.heap.size w w':=Any.strconv_Atoi_range Tryz.laysC172 s hlim h ev w hv hev
def Tryz.lays217_ren:Go.Shelf.Ren:=⟨fun|217=>57|266=>88|n=>n,fun|9=>9|5=>5|3=>3|n=>n,fun|n=>n⟩
theorem Tryz.lays217:Go.Proofs.Lays.n217 Tryz.prog Tryz.lays217_ren:={
 mixed:=by kernel_rfl
 f217:=Tryz.func57.trans (mg some (by kernel_rfl))
 f266:=Tryz.func88.trans (mg some (by kernel_rfl))
 t3:=Tryz.underlying3
 a3:=Tryz.isAgg3
 z3:=Tryz.sizeOf3
 v3:=Tryz.zeroValue3
 t5:=Tryz.underlying5
 a5:=Tryz.isAgg5
 z5:=Tryz.sizeOf5
 v5:=Tryz.zeroValue5
 t9:=Tryz.underlying9
 a9:=Tryz.isAgg9
 z9:=Tryz.sizeOf9
 v9:=Tryz.zeroValue9 }
open Go.RowKit Go.Lib in
theorem Tryz.stringslite_IndexByte (s:dh) (c:Int) (w:bf) :
  Calls Tryz.prog 57 #[.string s,.int .u8 c] w fun e w'=>e=.returned (.int .i64 (Lib.indexByte s.data.toList c.toNat.toUInt8))∧w'=w:=Any.stringslite_IndexByte Tryz.lays217 s c w
def Tryz.lays102_ren:Go.Shelf.Ren:=⟨fun|102=>14|209=>36|207=>65|n=>n,fun|9=>9|4=>4|3=>3|n=>n,fun|n=>n⟩
theorem Tryz.lays102:Go.Proofs.Lays.n102 Tryz.prog Tryz.lays102_ren:={
 mixed:=by kernel_rfl
 f102:=Tryz.func14.trans (mg some (by kernel_rfl))
 f207:=Tryz.func65.trans (mg some (by kernel_rfl))
 f209:=Tryz.func36.trans (mg some (by kernel_rfl))
 t3:=Tryz.underlying3
 a3:=Tryz.isAgg3
 z3:=Tryz.sizeOf3
 v3:=Tryz.zeroValue3
 t4:=Tryz.underlying4
 a4:=Tryz.isAgg4
 z4:=Tryz.sizeOf4
 v4:=Tryz.zeroValue4
 t9:=Tryz.underlying9
 a9:=Tryz.isAgg9
 z9:=Tryz.sizeOf9
 v9:=Tryz.zeroValue9 }
theorem Tryz.strings_TrimSuffix (s p:dh) (w:bf) (hs:s.size<=9223372036854775807) :
  Calls Tryz.prog 14 #[.string s,.string p] w fun e w'=>e=.returned (.string ⟨(Lib.trimSuffix s.data.toList p.data.toList).toArray⟩)∧w'=w:=Any.strings_TrimSuffix Tryz.lays102 s p w hs
def Tryz.lays146_ren:Go.Shelf.Ren:=⟨fun|146=>13|221=>35|268=>62|138=>63|143=>64|195=>94|197=>95|218=>96|219=>97|260=>121|217=>57|225=>122|224=>123|267=>124|266=>88|314=>141|n=>n,fun|9=>9|31=>40|3=>3|4=>4|0=>0|105=>118|21=>21|5=>5|46=>143|119=>162|139=>165|138=>164|146=>167|51=>166|n=>n,fun|1=>0|3=>4|4=>5|n=>n⟩
theorem Tryz.lays146:Go.Proofs.Lays.n146 Tryz.prog Tryz.lays146_ren:={
 mixed:=by kernel_rfl
 f138:=Tryz.func63.trans (mg some (by kernel_rfl))
 f143:=Tryz.func64.trans (mg some (by kernel_rfl))
 f146:=Tryz.func13.trans (mg some (by kernel_rfl))
 f195:=Tryz.func94.trans (mg some (by kernel_rfl))
 f197:=Tryz.func95.trans (mg some (by kernel_rfl))
 f217:=Tryz.func57.trans (mg some (by kernel_rfl))
 f218:=Tryz.func96.trans (mg some (by kernel_rfl))
 f219:=Tryz.func97.trans (mg some (by kernel_rfl))
 f221:=Tryz.func35.trans (mg some (by kernel_rfl))
 f224:=Tryz.func123.trans (mg some (by kernel_rfl))
 f225:=Tryz.func122.trans (mg some (by kernel_rfl))
 f260:=Tryz.func121.trans (mg some (by kernel_rfl))
 f266:=Tryz.func88.trans (mg some (by kernel_rfl))
 f267:=Tryz.func124.trans (mg some (by kernel_rfl))
 f268:=Tryz.func62.trans (mg some (by kernel_rfl))
 f314:=Tryz.func141.trans (mg some (by kernel_rfl))
 t0:=Tryz.underlying0
 a0:=Tryz.isAgg0
 z0:=Tryz.sizeOf0
 v0:=Tryz.zeroValue0
 t3:=Tryz.underlying3
 a3:=Tryz.isAgg3
 z3:=Tryz.sizeOf3
 v3:=Tryz.zeroValue3
 t4:=Tryz.underlying4
 a4:=Tryz.isAgg4
 z4:=Tryz.sizeOf4
 v4:=Tryz.zeroValue4
 t5:=Tryz.underlying5
 a5:=Tryz.isAgg5
 z5:=Tryz.sizeOf5
 v5:=Tryz.zeroValue5
 t9:=Tryz.underlying9
 a9:=Tryz.isAgg9
 z9:=Tryz.sizeOf9
 v9:=Tryz.zeroValue9
 t21:=Tryz.underlying21
 a21:=Tryz.isAgg21
 z21:=Tryz.sizeOf21
 v21:=Tryz.zeroValue21
 t31:=Tryz.underlying40
 a31:=Tryz.isAgg40
 z31:=Tryz.sizeOf40
 v31:=Tryz.zeroValue40
 t46:=Tryz.underlying143
 a46:=Tryz.isAgg143
 z46:=Tryz.sizeOf143
 v46:=Tryz.zeroValue143
 t51:=Tryz.underlying166
 a51:=Tryz.isAgg166
 z51:=Tryz.sizeOf166
 v51:=Tryz.zeroValue166
 t105:=Tryz.underlying118
 a105:=Tryz.isAgg118
 z105:=Tryz.sizeOf118
 v105:=Tryz.zeroValue118
 t119:=Tryz.underlying162
 a119:=Tryz.isAgg162
 z119:=Tryz.sizeOf162
 t138:=Tryz.underlying164
 a138:=Tryz.isAgg164
 z138:=Tryz.sizeOf164
 v138:=Tryz.zeroValue164
 t139:=Tryz.underlying165
 a139:=Tryz.isAgg165
 z139:=Tryz.sizeOf165
 v139:=Tryz.zeroValue165
 t146:=Tryz.underlying167
 a146:=Tryz.isAgg167
 z146:=Tryz.sizeOf167
 v146:=Tryz.zeroValue167
 g1:=by kernel_rfl
 g3:=by kernel_rfl
 g4:=by kernel_rfl }
theorem Tryz.strings_Split (s sep:dh) (m:Int) (w:bf) (hs:s.size<4294967281) (hm:w.cell? ⟨0,0,none⟩=some (.int .i64 m)) (h1:1<=sep.size) :
  Calls Tryz.prog 13 #[.string s,.string sep] w fun e w' =>
   e=.returned (.slice (some ⟨w.heap.size,0,none⟩) (Lib.countB s sep+1) (Lib.countB s sep+1))∧w'=w.alloc (.cells ((Lib.splitB sep 0 (Lib.countB s sep) s).map Value.string).toArray 9):=Any.strings_Split Tryz.lays146 (by kernel_rfl) s sep m w hs hm h1
def Tryz.pmRen:Go.Shelf.Ren:=⟨fun|169=>39|167=>99|166=>100|240=>129|276=>153|n=>n,fun|70=>71|9=>9|0=>0|72=>73|37=>64|127=>101|3=>3|5=>5|4=>4|20=>20|75=>91|80=>75|164=>183|190=>92|n=>n,fun|n=>n⟩
theorem Tryz.lays166:Go.Proofs.Lays.n166 Tryz.prog Tryz.pmRen:={
 mixed:=by kernel_rfl
 f166:=Tryz.func100.trans (mg some (by kernel_rfl))
 f240:=Tryz.func129.trans (mg some (by kernel_rfl))
 f276:=Tryz.func153.trans (mg some (by kernel_rfl))
 t0:=Tryz.underlying0
 a0:=Tryz.isAgg0
 z0:=Tryz.sizeOf0
 v0:=Tryz.zeroValue0
 t3:=Tryz.underlying3
 a3:=Tryz.isAgg3
 z3:=Tryz.sizeOf3
 v3:=Tryz.zeroValue3
 t4:=Tryz.underlying4
 a4:=Tryz.isAgg4
 z4:=Tryz.sizeOf4
 v4:=Tryz.zeroValue4
 t9:=Tryz.underlying9
 a9:=Tryz.isAgg9
 z9:=Tryz.sizeOf9
 v9:=Tryz.zeroValue9
 t20:=Tryz.underlying20
 a20:=Tryz.isAgg20
 z20:=Tryz.sizeOf20
 v20:=Tryz.zeroValue20
 t37:=Tryz.underlying64
 a37:=Tryz.isAgg64
 z37:=Tryz.sizeOf64
 v37:=Tryz.zeroValue64
 t70:=Tryz.underlying71
 a70:=Tryz.isAgg71
 z70:=Tryz.sizeOf71
 v70:=Tryz.zeroValue71
 t72:=Tryz.underlying73
 a72:=Tryz.isAgg73
 z72:=Tryz.sizeOf73
 v72:=Tryz.zeroValue73
 t75:=Tryz.underlying91
 a75:=Tryz.isAgg91
 z75:=Tryz.sizeOf91
 v75:=Tryz.zeroValue91
 t164:=Tryz.underlying183
 a164:=Tryz.isAgg183
 z164:=Tryz.sizeOf183
 v164:=Tryz.zeroValue183 }
theorem Tryz.lays167:Go.Proofs.Lays.n167 Tryz.prog Tryz.pmRen:={
 mixed:=by kernel_rfl
 f167:=Tryz.func99.trans (mg some (by kernel_rfl))
 f240:=Tryz.func129.trans (mg some (by kernel_rfl))
 f276:=Tryz.func153.trans (mg some (by kernel_rfl))
 t0:=Tryz.underlying0
 a0:=Tryz.isAgg0
 z0:=Tryz.sizeOf0
 v0:=Tryz.zeroValue0
 t4:=Tryz.underlying4
 a4:=Tryz.isAgg4
 z4:=Tryz.sizeOf4
 v4:=Tryz.zeroValue4
 t5:=Tryz.underlying5
 a5:=Tryz.isAgg5
 z5:=Tryz.sizeOf5
 v5:=Tryz.zeroValue5
 t9:=Tryz.underlying9
 a9:=Tryz.isAgg9
 z9:=Tryz.sizeOf9
 v9:=Tryz.zeroValue9
 t20:=Tryz.underlying20
 a20:=Tryz.isAgg20
 z20:=Tryz.sizeOf20
 v20:=Tryz.zeroValue20
 t37:=Tryz.underlying64
 a37:=Tryz.isAgg64
 z37:=Tryz.sizeOf64
 v37:=Tryz.zeroValue64
 t70:=Tryz.underlying71
 a70:=Tryz.isAgg71
 z70:=Tryz.sizeOf71
 v70:=Tryz.zeroValue71
 t72:=Tryz.underlying73
 a72:=Tryz.isAgg73
 z72:=Tryz.sizeOf73
 v72:=Tryz.zeroValue73
 t75:=Tryz.underlying91
 a75:=Tryz.isAgg91
 z75:=Tryz.sizeOf91
 v75:=Tryz.zeroValue91
 t164:=Tryz.underlying183
 a164:=Tryz.isAgg183
 z164:=Tryz.sizeOf183
 v164:=Tryz.zeroValue183 }
theorem Tryz.lays169:Go.Proofs.Lays.n169 Tryz.prog Tryz.pmRen:={
 mixed:=by kernel_rfl
 f169:=Tryz.func39.trans (mg some (by kernel_rfl))
 t0:=Tryz.underlying0
 a0:=Tryz.isAgg0
 z0:=Tryz.sizeOf0
 v0:=Tryz.zeroValue0
 t3:=Tryz.underlying3
 a3:=Tryz.isAgg3
 z3:=Tryz.sizeOf3
 v3:=Tryz.zeroValue3
 t9:=Tryz.underlying9
 a9:=Tryz.isAgg9
 z9:=Tryz.sizeOf9
 v9:=Tryz.zeroValue9
 t37:=Tryz.underlying64
 a37:=Tryz.isAgg64
 z37:=Tryz.sizeOf64
 v37:=Tryz.zeroValue64
 t70:=Tryz.underlying71
 a70:=Tryz.isAgg71
 z70:=Tryz.sizeOf71
 v70:=Tryz.zeroValue71
 t72:=Tryz.underlying73
 a72:=Tryz.isAgg73
 z72:=Tryz.sizeOf73
 v72:=Tryz.zeroValue73
 t127:=Tryz.underlying101
 a127:=Tryz.isAgg101
 z127:=Tryz.sizeOf101
 v127:=Tryz.zeroValue101 }
theorem Tryz.pmExtra:Builder.Extra Tryz.prog Tryz.pmRen:={
 sizeBuilder:=by kernel_rfl
 liesBuilder:=by kernel_rfl
 t5:=Tryz.underlying5
 a5:=Tryz.isAgg5
 z5:=Tryz.sizeOf5
 v5:=Tryz.zeroValue5
 infoByte:=by kernel_rfl
 cellsByte:=by kernel_rfl
 sizeByte:=by kernel_rfl
 neB5:=by decide }
end Go.Proofs
theorem aox (v:Int) (w:bf) (h:v=0∨v=1) :
  Calls Tryz.prog 158 #[.int .i64 v] w fun e w'=>e=.returned (.string (flT v))∧w'=w:=by
 rcases h with rfl|rfl
 all_goals
  go_enter Tryz.func158,Tryz.ntmps158;go_wp2;go_ret;exact⟨rfl,rfl⟩
def ahi:List (dh × Int × Int):=[(⟨#[111,114]⟩,1,18),(⟨#[120,111,114]⟩,1,19),(⟨#[97,110,100]⟩,2,17),(⟨#[61]⟩,3,11),(⟨#[60,62]⟩,3,12),(⟨#[60]⟩,3,13),(⟨#[60,61]⟩,3,14),(⟨#[62]⟩,3,15),(⟨#[62,61]⟩,3,16),(⟨#[43]⟩,4,6),(⟨#[45]⟩,4,7),(⟨#[42]⟩,5,8),(⟨#[47]⟩,5,9),(⟨#[109,111,100]⟩,5,10)]
def a1y (x:dh × Int × Int):List Value:=[.string x.1,.int .i64 x.2.1,.int .i64 x.2.2]
def F9:List Value:=ahi.flatMap a1y
def opAt (k:Nat):dh × Int × Int:=ahi.getD k (⟨#[]⟩,0,0)
theorem u158:Tryz.prog.underlying 161=some (.array 14 160):=by kernel_rfl
theorem bav:(Tryz.prog.info? 161).map (·.size)=some F9.length:=by kernel_rfl
theorem a1z (w:bf):(Instr.index 161 (.agg F9.toArray) (.int .i64 ((0:Nat):Int))).run Tryz.prog w=.ok (.agg #[.string (opAt 0).1,.int .i64 (opAt 0).2.1,.int .i64 (opAt 0).2.2]) w:=by kernel_rfl
theorem a13 (w:bf):(Instr.index 161 (.agg F9.toArray) (.int .i64 ((1:Nat):Int))).run Tryz.prog w=.ok (.agg #[.string (opAt 1).1,.int .i64 (opAt 1).2.1,.int .i64 (opAt 1).2.2]) w:=by kernel_rfl
theorem a14 (w:bf):(Instr.index 161 (.agg F9.toArray) (.int .i64 ((2:Nat):Int))).run Tryz.prog w=.ok (.agg #[.string (opAt 2).1,.int .i64 (opAt 2).2.1,.int .i64 (opAt 2).2.2]) w:=by kernel_rfl
theorem a15 (w:bf):(Instr.index 161 (.agg F9.toArray) (.int .i64 ((3:Nat):Int))).run Tryz.prog w=.ok (.agg #[.string (opAt 3).1,.int .i64 (opAt 3).2.1,.int .i64 (opAt 3).2.2]) w:=by kernel_rfl
theorem a18 (w:bf):(Instr.index 161 (.agg F9.toArray) (.int .i64 ((4:Nat):Int))).run Tryz.prog w=.ok (.agg #[.string (opAt 4).1,.int .i64 (opAt 4).2.1,.int .i64 (opAt 4).2.2]) w:=by kernel_rfl
theorem a19 (w:bf):(Instr.index 161 (.agg F9.toArray) (.int .i64 ((5:Nat):Int))).run Tryz.prog w=.ok (.agg #[.string (opAt 5).1,.int .i64 (opAt 5).2.1,.int .i64 (opAt 5).2.2]) w:=by kernel_rfl
theorem a2a (w:bf):(Instr.index 161 (.agg F9.toArray) (.int .i64 ((6:Nat):Int))).run Tryz.prog w=.ok (.agg #[.string (opAt 6).1,.int .i64 (opAt 6).2.1,.int .i64 (opAt 6).2.2]) w:=by kernel_rfl
theorem a2b (w:bf):(Instr.index 161 (.agg F9.toArray) (.int .i64 ((7:Nat):Int))).run Tryz.prog w=.ok (.agg #[.string (opAt 7).1,.int .i64 (opAt 7).2.1,.int .i64 (opAt 7).2.2]) w:=by kernel_rfl
theorem a2c (w:bf):(Instr.index 161 (.agg F9.toArray) (.int .i64 ((8:Nat):Int))).run Tryz.prog w=.ok (.agg #[.string (opAt 8).1,.int .i64 (opAt 8).2.1,.int .i64 (opAt 8).2.2]) w:=by kernel_rfl
theorem a2d (w:bf):(Instr.index 161 (.agg F9.toArray) (.int .i64 ((9:Nat):Int))).run Tryz.prog w=.ok (.agg #[.string (opAt 9).1,.int .i64 (opAt 9).2.1,.int .i64 (opAt 9).2.2]) w:=by kernel_rfl
theorem axv (w:bf):(Instr.index 161 (.agg F9.toArray) (.int .i64 ((10:Nat):Int))).run Tryz.prog w=.ok (.agg #[.string (opAt 10).1,.int .i64 (opAt 10).2.1,.int .i64 (opAt 10).2.2]) w:=by kernel_rfl
theorem axw (w:bf):(Instr.index 161 (.agg F9.toArray) (.int .i64 ((11:Nat):Int))).run Tryz.prog w=.ok (.agg #[.string (opAt 11).1,.int .i64 (opAt 11).2.1,.int .i64 (opAt 11).2.2]) w:=by kernel_rfl
theorem axx (w:bf):(Instr.index 161 (.agg F9.toArray) (.int .i64 ((12:Nat):Int))).run Tryz.prog w=.ok (.agg #[.string (opAt 12).1,.int .i64 (opAt 12).2.1,.int .i64 (opAt 12).2.2]) w:=by kernel_rfl
theorem axy (w:bf):(Instr.index 161 (.agg F9.toArray) (.int .i64 ((13:Nat):Int))).run Tryz.prog w=.ok (.agg #[.string (opAt 13).1,.int .i64 (opAt 13).2.1,.int .i64 (opAt 13).2.2]) w:=by kernel_rfl
theorem arx:∀(k:Nat) (_:k<14) (w:bf),(Instr.index 161 (.agg F9.toArray) (.int .i64 k)).run Tryz.prog w=.ok (.agg #[.string (opAt k).1,.int .i64 (opAt k).2.1,.int .i64 (opAt k).2.2]) w
 | 0,_,w=>a1z w
 | 1,_,w=>a13 w
 | 2,_,w=>a14 w
 | 3,_,w=>a15 w
 | 4,_,w=>a18 w
 | 5,_,w=>a19 w
 | 6,_,w=>a2a w
 | 7,_,w=>a2b w
 | 8,_,w=>a2c w
 | 9,_,w=>a2d w
 | 10,_,w=>axv w
 | 11,_,w=>axw w
 | 12,_,w=>axx w
 | 13,_,w=>axy w
 | k+14,h,_=>absurd h (by omega)
theorem baw:∀k,k<14->sgT (opAt k).2.2=(opAt k).1:=by decide
theorem bax (op:Int) (h:∀j,j<14->(opAt j).2.2≠op):sgT op=⟨#[]⟩:=by
 have h0:¬op=18:=fun e=>h 0 (by decide) e.symm
 have h1:¬op=19:=fun e=>h 1 (by decide) e.symm
 have h2:¬op=17:=fun e=>h 2 (by decide) e.symm
 have h3:¬op=11:=fun e=>h 3 (by decide) e.symm
 have h4:¬op=12:=fun e=>h 4 (by decide) e.symm
 have h5:¬op=13:=fun e=>h 5 (by decide) e.symm
 have h6:¬op=14:=fun e=>h 6 (by decide) e.symm
 have h7:¬op=15:=fun e=>h 7 (by decide) e.symm
 have h8:¬op=16:=fun e=>h 8 (by decide) e.symm
 have h9:¬op=6:=fun e=>h 9 (by decide) e.symm
 have h10:¬op=7:=fun e=>h 10 (by decide) e.symm
 have h11:¬op=8:=fun e=>h 11 (by decide) e.symm
 have h12:¬op=9:=fun e=>h 12 (by decide) e.symm
 have h13:¬op=10:=fun e=>h 13 (by decide) e.symm
 simp only[sgT,ay h0,ay h1,ay h2,ay h3,ay h4,ay h5,ay h6,ay h7,ay h8,ay h9,ay h10,ay h11,ay h12,ay h13]
theorem Zl {P:Program} {ops:Array Oper} {rest:List Oper} {op:Oper} {a:Act} {w:bf} {Q:Exit->Act->bf->Prop} (hgd:op.guard=none) (ty:TypeId) (x i:Operand) (ho:op.op=.index ty x i)
  (vx vi v:Value) (hx:a.eval x=vx) (hi:a.eval i=vi) (hr:(Instr.index ty vx vi).run P w=.ok v w) (h:wpList P ops Q rest (a.put op.dst v) w):wpList P ops Q (op::rest) a w :=
 wpList_plain hgd fun _ hK=>by
  unfold Oper.wp execOp;simp only[ho,hx,hi,Sem.run_bind,hr,Result.andThen_ok,Sem.run_pure];exact hK _ _ h
theorem aqf (op:Int) (w:bf) (h:w.rangeAt 3 0 F9) :
  Calls Tryz.prog 159 #[.int .i64 op] w (Ans (.string (sgT op)) w):=by
 have HH:=hide h;have HP:=hide arx;clear h;go_enter Tryz.func159,Tryz.ntmps159;go_wp2_with (refine wpList_load_mid rfl 161 (.global 3) rfl 3 0 rfl F9 (.array 14 160) (uh HH) u158 rfl bav ?_);generalize F9.toArray=OC at *
 go_loopg [6] 14 (fun g i wr=>∃(k:Nat),k<=14∧g=14-k∧i=.int .i64 k∧(∀j,j<k->(opAt j).2.2≠op)∧Below w.heap.size w wr)
 case atStart=>exact⟨0,jg _,rfl,rfl,fun j hj=>absurd hj (yt _),gy _ _⟩
 case round =>
  obtain⟨k,hk,hg,rfl,hno,hbl⟩:=hrel;have HG:=hide hg;have HN:=hide hno;clear hg hno
  by_cases hlt:k<14
  ·have HI:=hide (uh HP k hlt)
   have HS:=hide (baw k hlt);have HE:Hid (opAt k=opAt k):=rfl
   by_cases he:(opAt k).2.2=op
   ·subst he
    generalize opAt k=p at *;obtain⟨s,l,o⟩:=p;simp only at *;go_wp2_with (refine Zl rfl 161 (.tmp 5) (.tmp 6) rfl (.agg OC) (.int .i64 k) _ rfl rfl (uh HI _) ?_);go_ret;exact⟨Bv (uh HS).symm,hbl.alloc hbl.size _⟩
   ·have Zr:Hid (∀j,j<k+1->(opAt j).2.2≠op):=fun j hj=>by
     by_cases hjk:j=k
     ·subst hjk;exact he
     ·exact uh HN j (by omega)
    generalize hq:opAt k=p at *;obtain⟨s,l,o⟩:=p;simp only at *;have HQ:=hide hq;clear hq;go_wp2_with (refine Zl rfl 161 (.tmp 5) (.tmp 6) rfl (.agg OC) (.int .i64 k) _ rfl rfl (uh HI _) ?_)
    go_roundg (14-(k+1))
    case measure=>have:=uh HG;omega
    case rel=>exact⟨k+1,by omega,rfl,by go_num,uh Zr,hbl.alloc hbl.size _⟩
  ·have e:k=14:=by omega
   subst e;go_wp2;go_ret;exact⟨Bv (bax op (uh HN)).symm,hbl⟩
structure Env (w:bf):Prop where
 ops:w.rangeAt 3 0 F9
 tab : Lib.TabIs Tryz.prog w "internal/strconv.uint64pow10" .u64 Lib.pow10Tab
 three:9<=w.heap.size
theorem bay : Tryz.prog.globalNamed "internal/strconv.uint64pow10" = some 6 := by kernel_rfl
theorem Env.below {B:Nat} {w w':bf} (h:Env w) (hb:Below B w w') (hB:9<=B):Env w':=by
 refine⟨fun j v hv=>?_,?_,jq h.three hb.size⟩
 ·rw[hb.cell (p:=⟨3,_,none⟩) (show 3<B by omega)]
  exact h.ops j v hv
 ·have:=h.tab
  unfold Lib.TabIs World.var? at *;rw[bay] at *;simp only[Option.bind_some] at *;rw[hb.block 6 (by omega)];exact this
theorem a6f (w:bf) (k:Nat) (os:Array Obj):Below w.heap.size w (Sort.grow (w.drewN k) os):=by
 refine⟨rfl,rfl,rfl,?_,fun i hi=>?_⟩
 ·show w.heap.size<=(w.heap++os).size
  rw[Array.size_append];omega
 ·show (w.heap++os)[i]?=w.heap[i]?
  rw[Array.getElem?_append_left hi]
theorem ahr (t:Int) (w:bf) (h:t=1∨t=2):Calls Tryz.prog 68 #[.int .i64 t] w fun e w'=>e=.returned (.string (Bq t))∧w'=w:=by
 rcases h with rfl|rfl
 all_goals
  go_enter Tryz.func68,Tryz.ntmps68;go_wp2;go_ret;exact⟨rfl,rfl⟩
theorem ad1 (n:Int) (h:Oh n) (w:bf) (hE:Env w):Calls Tryz.prog 69 #[.int .i64 n] w (Ans (.string (qm n)) w):=by
 unfold Oh at h;refine(Tryz.strconv_Itoa n (by omega) (by omega) w hE.tab).mono ?_;rintro e w1 ⟨rfl,k1,os1,rfl⟩;exact⟨rfl,a6f _ k1 os1⟩
end Go.Proofs.YtfeejeflmcapoaaGreatDoor
