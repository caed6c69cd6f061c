import Derived.Test.YtfeejeflmcapoaaGreatDoorRG4
import Derived.Shelf.Strings.BuilderCap
import Derived.Shelf.Strings.Builder1
import Derived.Shelf.Small.Strs
import Derived.Shelf.Small.Wraps
import Derived.Shelf.Strings.BuilderF
import Derived.Shelf.Strings.BuilderK
import Derived.Shelf.Strconv.Atoi
import Derived.Shelf.Strconv.Itoa0
import Derived.Shelf.Strconv.Itoa1
import Derived.Shelf.LaysM
import Derived.Shelf.Strconv.Itoa2
import Derived.Shelf.Strconv.Itoa3
import Derived.Shelf.Strconv.AtoiErrFast
import Derived.Shelf.Strconv.ParseIntEmpty
import Derived.Shelf.Strconv.AtoiFail
import Derived.Shelf.Strconv.Clone
import Derived.Shelf.Strconv.SyntaxError
import Derived.Shelf.LaysC
import Derived.Shelf.Strconv.ToError
import Derived.Shelf.Strconv.Lower
import Derived.Shelf.Strconv.ParseUint10
import Derived.Shelf.Strconv.ParseUint10Empty
import Derived.Shelf.Strconv.ParseUint10Any
import Derived.Shelf.Strconv.ParseInt10
import Derived.Shelf.Strconv.AtoiLong
import Derived.Shelf.Strconv.AtoiInnerAll
import Derived.Shelf.Strconv.RangeError
import Derived.Shelf.Strconv.ToErrorRange
import Derived.Shelf.Strconv.AtoiAll
import Derived.Shelf.Strings.Search1
import Derived.Shelf.Strings.Search2
import Derived.Shelf.Strings.Search3
import Derived.Shelf.Strings.Count
import Derived.Shelf.Strings.Shaped
import Derived.Shelf.Strings.Prefix
import Derived.Shelf.Strings.Split
import Derived.Shelf.Unicode.DecodeSlow
import Derived.Test.YtfeejeflmcapoaaGreatDoorProg
import Derived.Test.YtfeejeflmcapoaaGreatDoorPS1
import Derived.Test.YtfeejeflmcapoaaGreatDoorRG1
import Derived.Deep.MidRow
set_option linter.unusedSimpArgs false
set_option linter.unusedVariables false
set_option maxHeartbeats 1000000
namespace Go.Proofs.YtfeejeflmcapoaaGreatDoor
open Go.RowKit
theorem aiw (p:dh):(Hf p).name.size<=p.size:=by
 have hz:(J7 p).size<=p.size:=by
  rw[←Ep,←Ep p];unfold J7;rw[Zg,Cc];omega
 unfold Hf
 split
 ·exact hz
 split
 ·exact jg _
 split
 ·exact jg _
 split
 ·exact jg _
 split<;>exact jg _
theorem a9q (p:dh):0<=Vz p/\Vz p<=20:=by
 unfold Vz
 cases h:(List.range 17).find? (fun i=>decide (Dh i=p)) with
 | none=>simp only;omega
 | some i =>
  have h9:=uz.1 (List.mem_of_find?_eq_some h);simp only;omega
theorem apf (p:dh) (h:p.size<=1048576):Len (Hf p).name.size/\I64 (Hf p).op/\I64 (Hf p).val:=by
 have h1:=aiw p;have h2:=a9q p;have h3:=ad9 p;have h4:=ad9 (J7 p);refine⟨by unfold Len;omega,?_⟩;unfold Hf;unfold I64 at *
 split
 ·exact⟨by simp only;omega,by simp only;omega⟩
 split
 ·exact⟨by simp only;omega,h4⟩
 split
 ·exact⟨by simp only;omega,by simp only;omega⟩
 split
 ·exact⟨by simp only;omega,by simp only;omega⟩
 split
 ·exact⟨by simp only;omega,h3⟩
 ·exact⟨by simp only;omega,by simp only;omega⟩
theorem agl {α:Type} (g:α->Nat) (x:α) (xs:List α):pz g (x::xs)=1+g x+pz g xs:=by
 unfold pz;simp only[Ai,ug,List.sum_cons];omega
theorem a5r (ps:List dh):pz Gh (A8 ps)<=Du ps:=by
 induction ps with
 | nil=>simp[A8,pz,Du]
 | cons p ps ih =>
  have h:=aiw p;have e:A8 (p::ps)=Hf p::A8 ps:=rfl;rw[e,agl,Nv];unfold Gh at *;omega
def AW (ps:List dh):Nat:=((cutAt Bl ps).map (fun l=>1+pz Gh (A8 l))).sum
theorem arn (x:dh) (r:List dh):AW (x::r)=if x=Bl then 1+AW r else 1+Gh (Hf x)+AW r:=by
 unfold AW;rw[cutAt]
 by_cases h:x=Bl
 ·rw[gy h,gy h]
  simp[A8,pz]
 ·rw[bf h,bf h]
  have e:=Uc Bl r;generalize cutAt Bl r=ls at e;rw[e];simp only[Ai,List.sum_cons,List.headD_cons,List.tail_cons];have e2:A8 (x::ls.headD [])=Hf x::A8 (ls.headD []):=rfl;rw[e2,agl];omega
theorem a3m (ps:List dh):AW ps<=Du ps+1:=by
 induction ps with
 | nil=>exact gu _
 | cons p ps ih =>
  rw[arn,Nv];have h:=aiw p;unfold Gh
  split<;>omega
theorem apg (l:List Nat):l.dropLast.sum<=l.sum:=by
 rcases List.eq_nil_or_concat l with rfl|⟨b,x,rfl⟩
 ·simp
 ·rw[List.concat_eq_append,List.dropLast_concat,List.sum_append]
  omega
theorem aph {α:Type} (g:List α->Nat) (ls:List (List α)):((Un ls).map g).sum<=(ls.map g).sum:=by
 unfold Un
 split
 ·rw[List.map_dropLast]
  exact apg _
 ·exact gu _
theorem aro (ps:List dh):pz (pz Gh) (Pq ps)<=AW ps:=by
 unfold Pq AW;refine ku ?_ (aph _ _);generalize Un (cutAt Bl ps)=ls
 induction ls with
 | nil=>simp[pz]
 | cons l ls ih =>
  rw[Ai,agl,Ai,List.sum_cons];omega
theorem a5s (cs:List dw) (f:List dh) (k:dw) (hne:f≠[]):qy (Jg cs f k)<=qy k+Du f:=by
 obtain⟨x,f',hx⟩:∃x f',f=x::f':=by
  cases f with
  | nil=>exact absurd rfl hne
  | cons x f'=>exact⟨x,f',rfl⟩
 have z:pz Qp []=0/\pz Gh []=0/\pz (pz Gh) []=0:=by decide
 have zn:E0.size=0:=rfl;have hl:1<=f.length:=by rw[hx];simp
 have p0:=(Qj f 0).2 (by omega);have d0:Du (f.drop 0)=Du f:=rfl
 have q1:(fA f 1).size<=Du (f.drop 1):=by
  by_cases c:1<f.length
  ·have:=(Qj f 1).2 c;omega
  ·have e:fA f 1=E0:=by unfold fA;rw[yw,List.getElem?_eq_none (by omega)];rfl
   rw[e,zn];omega
 have q2:(fA f 1).size+Du (f.drop 3)<=Du (f.drop 1):=by
  by_cases c:1<f.length
  ·have h1:=(Qj f 1).2 c
   have h2:=aiv (f.drop 2) 1;rw[List.drop_drop] at h2;simp only[Nat.reduceAdd] at h1 h2;omega
  ·have e:f.drop 3=[]:=List.drop_eq_nil_of_le (by omega)
   rw[e,ak4];omega
 have q3:=a5r (f.drop 3);simp only[Ba] at p0;have one:1+(fA f 1).size<=Du f:=by omega
 unfold Jg
 by_cases h1:fA f 0=Ic
 ·rw[gy h1]
  simp only[qy,Ah,Uh,Lj];omega
 rw[bf h1]
 by_cases h2:fA f 0=Dz
 ·rw[gy h2]
  simp only[qy,Ah,Uh,Lj];omega
 rw[bf h2]
 by_cases h3:fA f 0=Ee
 ·rw[gy h3]
  simp only[qy,Ah,Qp];omega
 rw[bf h3]
 by_cases h4:fA f 0=Ef
 ·rw[gy h4]
  simp only[qy,jh,ug,Ar];omega
 rw[bf h4]
 by_cases h5:fA f 0=Eh
 ·rw[gy h5]
  simp only[qy,jh,ug,Ar];omega
 rw[bf h5]
 by_cases h6:fA f 0=Po
 ·rw[gy h6];omega
 rw[bf h6];unfold Ny
 by_cases c1:fA f 0=Je
 ·rw[gy c1]
  simp only[Dj,qy,Ah,Nr,z.1,z.2.2];omega
 rw[bf c1]
 by_cases c2:fA f 0=Fp
 ·rw[gy c2]
  simp only[Dj,qy,Ah,Nr,z.1,z.2.2,zn];omega
 rw[bf c2]
 by_cases c3:fA f 0=zx
 ·rw[gy c3]
  have hc0:(fA f 0).size=4:=by rw[c3];rfl
  unfold adb;have pl:=X6 f ql
  by_cases c:0<=je f ql
  ·obtain⟨j,hj⟩:=Ht c
   rw[hj] at pl ⊢;simp only[Ed];rw[show ((j:Int)+1).toNat=j+1 from by omega];have a0:=aro (f.drop (j+1));have a1:=a3m (f.drop (j+1));have a5:=axf (wz f 2 j)
   have a6:Du (wz f 2 j)+Du (f.drop (j+1))<=Du (f.drop 1):=by
    have h9:=aiv (f.drop 1) 1;rw[List.drop_drop] at h9;simp only[Nat.reduceAdd] at h9
    by_cases g:2<=j
    ·have a2:=a3l f 2 j g
     have a3:=(Qj f j).2 (by omega);omega
    ·have e:wz f 2 j=[]:=by unfold wz;rw[show j-2=0 from by omega];rfl
     have a3:=aiv (f.drop 1) j;rw[List.drop_drop,show 1+j=j+1 from by omega] at a3;rw[e,ak4];omega
   simp only[Dj,qy,Ah,Nr,z.2.1,zn,a5];omega
  ·have hj:je f ql = -1:=by
    unfold je at c ⊢;revert c
    cases f.findIdx? (fun x=>x.toList==ql.toList) with
    | none=>intro _;rfl
    | some i=>intro c;exact absurd (Int.natCast_nonneg i) c
   rw[hj];have e1:wz f 2 (-1:Int).toNat=[]:=rfl;have e2:f.drop (-1+1:Int).toNat=f:=rfl;rw[e1,e2];have a0:=aro f;have hx0:x=zx:=by rw[←c3,hx];rfl
   have a1:AW f<=Du (f.drop 1)+2:=by
    rw[hx,arn,bf (by rw[hx0];decide)];have e3:Gh (Hf x)=0:=by rw[hx0];decide
    have a2:=a3m f';rw[e3];simp only[List.drop_succ_cons,List.drop_zero];omega
   simp only[Dj,qy,Ah,Nr,z.1,z.2.1,zn];omega
 rw[bf c3]
 by_cases c4:fA f 0=Qg
 ·rw[gy c4]
  simp only[Dj,qy,Ah,Nr,z.1,z.2.1,z.2.2];omega
 rw[bf c4]
 split
 ·simp only[Dj,qy,Ah,Nr,z.1,z.2.1,z.2.2,zn];omega
 split
 ·simp only[Dj,qy,Ah,Nr,z.1,z.2.1,z.2.2,zn];omega
 ·simp only[Dj,qy,Ah,Nr,z.1,z.2.1,z.2.2,zn];omega
def WG (cs:List dw):Nat:=if cs=[] then 0 else pz qy cs+5
theorem ahd (a:List dw) (k:dw):WG (a++[k])=pz qy (a++[k])+5:=by
 unfold WG;rw[bf (by simp)]
theorem aug (cs:List dw):pz qy cs<=WG cs:=by
 unfold WG
 split
 ·rename_i h
  rw[h];simp[pz]
 ·omega
theorem a3n (cs:List dw) (g:dw->dw) (n:Nat) (h:∀k,qy (g k)<=qy k+n):WG (upL cs g)<=WG cs+n:=by
 rcases List.eq_nil_or_concat cs with rfl|⟨a,k,rfl⟩
 ·rw[ak2];omega
 ·rw[List.concat_eq_append,Aa,ahd,ahd,Ah,Ah]
  have:=h k;omega
theorem arp (cs:List dw) (eu:dh):WG (Me cs eu)<=WG cs+eu.size+1:=by
 have hne:=Ei 32 eu;have hps:Du (wordsOf 32 eu)=eu.size+1:=(Au 32 eu).2;unfold Me Va;generalize wordsOf 32 eu=f at *
 by_cases hc:fA f 0=vw
 ·rw[gy hc,ahd,Ah]
  have hl:1<=f.length:=E5.2 hne;have p0:=(Qj f 0).2 (by omega)
  have q1:(fA f 1).size<=Du (f.drop 1):=by
   by_cases c:1<f.length
   ·have:=(Qj f 1).2 c;omega
   ·have e:fA f 1=E0:=by unfold fA;rw[yw,List.getElem?_eq_none (by omega)];rfl
    rw[e];exact jg _
  have d0:Du (f.drop 0)=Du f:=rfl;have e:qy (K0 (fA f 1))=(fA f 1).size:=rfl;have z0:(fA f 0).size=5:=by rw[hc];rfl
  have h9:=aug cs;simp only[Ba] at p0;omega
 ·rw[bf hc]
  have h9:=a3n cs (Jg cs f) (Du f) (fun k=>a5s cs f k hne);omega
theorem a1n (cs:List dw) (eu:dh):WG (stepS cs eu)<=WG cs+eu.size+1:=by
 have hne:=Ei 32 eu;have hps:Du (wordsOf 32 eu)=eu.size+1:=(Au 32 eu).2;have hcl:=aj2 eu;unfold stepS Iq;generalize wordsOf 32 eu=f at *
 by_cases hc:fA f 0=vw/\f.length=2
 ·rw[gy hc,Aa,amh _ _ _ _ hc.1 (hcl hc.1).1 (hcl hc.1).2,ahd,Ah]
  have p0:=(Qj f 0).2 (by omega);have p1:=(Qj f 1).2 (by omega);have d0:Du (f.drop 0)=Du f:=rfl;have e:qy (K0 (fA f 1))=(fA f 1).size:=rfl;have z0:(fA f 0).size=5:=by rw[hc.1];rfl
  have h9:=aug cs;simp only[Ba,Nat.reduceAdd] at p0 p1;omega
 ·rw[bf hc]
  have h9:=a3n cs (lineS cs eu f) (Du f) (fun k=>arl cs eu f k hne);omega
theorem ak5 (st:List dw->dh->List dw) (h:∀cs l,WG (st cs l)<=WG cs+l.size+1) (ls:List dh):∀cs,WG (ls.foldl st cs)<=WG cs+Du ls:=by
 induction ls with
 | nil=>intro cs;exact Nat.le_add_right _ _
 | cons l ls ih =>
  intro cs;rw[List.foldl_cons,Nv];have h1:=ih (st cs l);have h2:=h cs l;omega
theorem axk (cs:List dw) (n:Nat) (h:WG cs<=n+1):pz qy cs<=n:=by
 unfold WG at h
 split at h
 ·rename_i e
  rw[e];simp[pz]
 ·omega
theorem alv (t:dh):pz qy (Np t)<=t.size:=by
 have h:=ak5 stepS a1n (wordsOf 10 t) [];have h2:Du (wordsOf 10 t)=t.size+1:=(Au 10 t).2;have h3:WG ([]:List dw)=0:=rfl;refine axk _ _ ?_;unfold Np;omega
theorem agm (t:dh):Du (Gz t)<=t.size+1:=by
 have h:=(afz 10 (bL t)).2;have h2:=aph (fun p:List UInt8=>p.length+1) (cutAt 10 (bL t));unfold Du Gz;rw[List.map_map]
 have e:((fun p:dh=>p.size+1) ∘ Qo)=fun p:List UInt8=>p.length+1:=by
  funext p;show (Qo p).size+1=_;rw[←Ep,Zg]
 rw[e];rw[Ep] at h;omega
theorem a1o (t:dh):pz qy (Oo t)<=t.size:=by
 have h:=ak5 Me arp (Gz t) [];have h2:=agm t;have h3:WG ([]:List dw)=0:=rfl;refine axk _ _ ?_;unfold Oo;omega
def Xh (ks:List dw):dh:=if Pn ks=true then F6 (G8 ks) else ByteArray.empty
theorem axl (t:dh) (ht:t≠ByteArray.empty):(Xh (Np t)=t↔Xh (Oo t)=t)/\(Xh (Np t)=t->Oo t=Np t):=by
 have key:∀ks:List dw,Xh ks=t->Pn ks=true/\t=F6 (G8 ks):=fun ks h=>by
  unfold Xh at h
  by_cases c:Pn ks=true
  ·rw[gy c] at h
   exact⟨c,h.symm⟩
  ·rw[bf c] at h
   exact absurd h.symm ht
 have h1:Xh (Np t)=t->Oo t=Np t:=fun h=>by
  obtain⟨a,b⟩:=key _ h;generalize Np t=ks at a b;rw[b,ape a]
 have h2:Xh (Oo t)=t->Np t=Oo t:=fun h=>by
  obtain⟨a,b⟩:=key _ h;generalize Oo t=ks at a b;rw[b,aoh a]
 exact⟨⟨fun h=>by rw[h1 h];exact h,fun h=>by rw[h2 h];exact h⟩,h1⟩
open Go.Shelf
def Tryz.lays103_ren:Go.Shelf.Ren:=⟨fun|103=>118|210=>140|206=>165|n=>n,fun|9=>9|4=>4|24=>141|3=>3|n=>n,fun|n=>n⟩
theorem Tryz.lays103:Go.Proofs.Lays.n103 Tryz.prog Tryz.lays103_ren:={
 mixed:=by kernel_rfl
 f103:=Tryz.func118.trans (ni some (by kernel_rfl))
 f206:=Tryz.func165.trans (ni some (by kernel_rfl))
 f210:=Tryz.func140.trans (ni some (by kernel_rfl))
 t3:=Tryz.underlying3
 a3:=Tryz.isAgg3
 z3:=Tryz.sizeOf3
 v3:=Tryz.zeroValue3
 t4:=Tryz.underlying4
 a4:=Tryz.isAgg4
 z4:=Tryz.sizeOf4
 v4:=Tryz.zeroValue4
 t9:=Tryz.underlying9
 a9:=Tryz.isAgg9
 z9:=Tryz.sizeOf9
 v9:=Tryz.zeroValue9
 t24:=Tryz.underlying141
 a24:=Tryz.isAgg141
 z24:=Tryz.sizeOf141
 v24:=Tryz.zeroValue141 }
open Go.RowKit in
theorem Tryz.strings_CutPrefix (s p:dh) (w:cu) :
  Calls Tryz.prog 118 #[.string s,.string p] w fun e w'=>e=.returned (.tuple #[.string ⟨(Lib.trimPrefix s.data.toList p.data.toList).toArray⟩,.bool (Lib.hasPrefix s.data.toList p.data.toList)])/\w'=w:=Any.strings_CutPrefix Tryz.lays103 s p w
def Tryz.laysM171_ren:Go.Shelf.Ren:=⟨fun|171=>69|243=>101|246=>130|283=>154|284=>155|285=>156|286=>157|129=>173|317=>172|318=>174|319=>175|320=>176|337=>183|338=>184|n=>n,fun|3=>3|9=>9|2=>2|4=>4|171=>185|0=>0|53=>153|37=>64|5=>5|173=>188|212=>204|51=>166|20=>20|213=>205|46=>143|232=>228|233=>229|n=>n,fun|17=>6|18=>7|19=>8|n=>n⟩
theorem Tryz.laysM171:Go.Proofs.LaysM.n171 Tryz.prog Tryz.laysM171_ren:={
 mixed:=by kernel_rfl
 f129:=Tryz.func173.trans (ni some (by kernel_rfl))
 f171:=Tryz.func69.trans (ni some (by kernel_rfl))
 f243:=Tryz.func101.trans (ni some (by kernel_rfl))
 f246:=Tryz.func130.trans (ni some (by kernel_rfl))
 f283:=Tryz.func154.trans (ni some (by kernel_rfl))
 f284:=Tryz.func155.trans (ni some (by kernel_rfl))
 f285:=Tryz.func156.trans (ni some (by kernel_rfl))
 f286:=Tryz.func157.trans (ni some (by kernel_rfl))
 f317:=Tryz.func172.trans (ni some (by kernel_rfl))
 f318:=Tryz.func174.trans (ni some (by kernel_rfl))
 f319:=Tryz.func175.trans (ni some (by kernel_rfl))
 f320:=Tryz.func176.trans (ni some (by kernel_rfl))
 f337:=Tryz.func183.trans (ni some (by kernel_rfl))
 f338:=Tryz.func184.trans (ni some (by kernel_rfl))
 t0:=Tryz.underlying0
 a0:=Tryz.isAgg0
 z0:=Tryz.sizeOf0
 v0:=Tryz.zeroValue0
 t2:=Tryz.underlying2
 a2:=Tryz.isAgg2
 z2:=Tryz.sizeOf2
 v2:=Tryz.zeroValue2
 t3:=Tryz.underlying3
 a3:=Tryz.isAgg3
 z3:=Tryz.sizeOf3
 v3:=Tryz.zeroValue3
 t4:=Tryz.underlying4
 a4:=Tryz.isAgg4
 z4:=Tryz.sizeOf4
 v4:=Tryz.zeroValue4
 t5:=Tryz.underlying5
 a5:=Tryz.isAgg5
 z5:=Tryz.sizeOf5
 v5:=Tryz.zeroValue5
 t9:=Tryz.underlying9
 a9:=Tryz.isAgg9
 z9:=Tryz.sizeOf9
 v9:=Tryz.zeroValue9
 t20:=Tryz.underlying20
 a20:=Tryz.isAgg20
 z20:=Tryz.sizeOf20
 v20:=Tryz.zeroValue20
 t37:=Tryz.underlying64
 a37:=Tryz.isAgg64
 z37:=Tryz.sizeOf64
 v37:=Tryz.zeroValue64
 t46:=Tryz.underlying143
 a46:=Tryz.isAgg143
 z46:=Tryz.sizeOf143
 v46:=Tryz.zeroValue143
 t51:=Tryz.underlying166
 a51:=Tryz.isAgg166
 z51:=Tryz.sizeOf166
 v51:=Tryz.zeroValue166
 t53:=Tryz.underlying153
 a53:=Tryz.isAgg153
 z53:=Tryz.sizeOf153
 v53:=Tryz.zeroValue153
 t171:=Tryz.underlying185
 a171:=Tryz.isAgg185
 z171:=Tryz.sizeOf185
 v171:=Tryz.zeroValue185
 t173:=Tryz.underlying188
 a173:=Tryz.isAgg188
 z173:=Tryz.sizeOf188
 v173:=Tryz.zeroValue188
 t212:=Tryz.underlying204
 a212:=Tryz.isAgg204
 z212:=Tryz.sizeOf204
 v212:=Tryz.zeroValue204
 t213:=Tryz.underlying205
 a213:=Tryz.isAgg205
 z213:=Tryz.sizeOf205
 t232:=Tryz.underlying228
 a232:=Tryz.isAgg228
 z232:=Tryz.sizeOf228
 v232:=Tryz.zeroValue228
 t233:=Tryz.underlying229
 a233:=Tryz.isAgg229
 z233:=Tryz.sizeOf229
 v233:=Tryz.zeroValue229
 g17:=by kernel_rfl
 g18:=by kernel_rfl
 g19:=by kernel_rfl
 i0:=by kernel_rfl
 i2:=by kernel_rfl
 i3:=by kernel_rfl
 i4:=by kernel_rfl
 i5:=by kernel_rfl
 i9:=by kernel_rfl
 i20:=by kernel_rfl
 i37:=by kernel_rfl
 i46:=by kernel_rfl
 i51:=by kernel_rfl
 i53:=by kernel_rfl
 i171:=by kernel_rfl
 i173:=by kernel_rfl
 i212:=by kernel_rfl
 i232:=by kernel_rfl
 i233:=by kernel_rfl
 m17:=by kernel_rfl
 m18:=by kernel_rfl
 m19:=by kernel_rfl }
open Go.RowKit Go.Sort Go.Lib in
theorem Tryz.strconv_Itoa (n : Int) (h0 : -9223372036854775808 ≤ n) (h1 : n ≤ 9223372036854775807) (w : cu) (htab : Lib.TabIs Tryz.prog w "internal/strconv.uint64pow10" .u64 Lib.pow10Tab) :
  Calls Tryz.prog 69 #[.int .i64 n] w fun e w'=>e=.returned (.string ⟨(Lib.itoa n).toArray⟩)/\∃k os,w'=grow (w.drewN k) os:=Any.strconv_Itoa Tryz.laysM171 n h0 h1 w htab
def Tryz.laysC172_ren:Go.Shelf.Ren:=⟨fun|172=>59|244=>90|245=>91|247=>113|279=>114|280=>115|281=>116|282=>117|287=>138|316=>89|171=>69|205=>139|321=>163|322=>164|243=>101|246=>130|283=>154|284=>155|285=>156|286=>157|129=>173|317=>172|318=>174|319=>175|320=>176|337=>183|338=>184|n=>n,fun|9=>9|3=>3|75=>91|76=>92|4=>4|5=>5|167=>135|37=>64|0=>0|85=>136|2=>2|168=>138|53=>153|175=>154|46=>143|210=>157|127=>101|145=>195|143=>193|21=>21|171=>185|173=>188|212=>204|51=>166|20=>20|213=>205|232=>228|233=>229|80=>75|n=>n,fun|15=>1|16=>2|17=>6|18=>7|19=>8|n=>n⟩
theorem Tryz.laysC172:Go.Proofs.LaysC.n172 Tryz.prog Tryz.laysC172_ren:={
 mixed:=by kernel_rfl
 f129:=Tryz.func173.trans (ni some (by kernel_rfl))
 f171:=Tryz.func69.trans (ni some (by kernel_rfl))
 f172:=Tryz.func59.trans (ni some (by kernel_rfl))
 f205:=Tryz.func139.trans (ni some (by kernel_rfl))
 f243:=Tryz.func101.trans (ni some (by kernel_rfl))
 f244:=Tryz.func90.trans (ni some (by kernel_rfl))
 f245:=Tryz.func91.trans (ni some (by kernel_rfl))
 f246:=Tryz.func130.trans (ni some (by kernel_rfl))
 f247:=Tryz.func113.trans (ni some (by kernel_rfl))
 f279:=Tryz.func114.trans (ni some (by kernel_rfl))
 f280:=Tryz.func115.trans (ni some (by kernel_rfl))
 f281:=Tryz.func116.trans (ni some (by kernel_rfl))
 f282:=Tryz.func117.trans (ni some (by kernel_rfl))
 f283:=Tryz.func154.trans (ni some (by kernel_rfl))
 f284:=Tryz.func155.trans (ni some (by kernel_rfl))
 f285:=Tryz.func156.trans (ni some (by kernel_rfl))
 f286:=Tryz.func157.trans (ni some (by kernel_rfl))
 f287:=Tryz.func138.trans (ni some (by kernel_rfl))
 f316:=Tryz.func89.trans (ni some (by kernel_rfl))
 f317:=Tryz.func172.trans (ni some (by kernel_rfl))
 f318:=Tryz.func174.trans (ni some (by kernel_rfl))
 f319:=Tryz.func175.trans (ni some (by kernel_rfl))
 f320:=Tryz.func176.trans (ni some (by kernel_rfl))
 f321:=Tryz.func163.trans (ni some (by kernel_rfl))
 f322:=Tryz.func164.trans (ni some (by kernel_rfl))
 f337:=Tryz.func183.trans (ni some (by kernel_rfl))
 f338:=Tryz.func184.trans (ni some (by kernel_rfl))
 t0:=Tryz.underlying0
 a0:=Tryz.isAgg0
 z0:=Tryz.sizeOf0
 v0:=Tryz.zeroValue0
 t2:=Tryz.underlying2
 a2:=Tryz.isAgg2
 z2:=Tryz.sizeOf2
 v2:=Tryz.zeroValue2
 t3:=Tryz.underlying3
 a3:=Tryz.isAgg3
 z3:=Tryz.sizeOf3
 v3:=Tryz.zeroValue3
 t4:=Tryz.underlying4
 a4:=Tryz.isAgg4
 z4:=Tryz.sizeOf4
 v4:=Tryz.zeroValue4
 t5:=Tryz.underlying5
 a5:=Tryz.isAgg5
 z5:=Tryz.sizeOf5
 v5:=Tryz.zeroValue5
 t9:=Tryz.underlying9
 a9:=Tryz.isAgg9
 z9:=Tryz.sizeOf9
 v9:=Tryz.zeroValue9
 t20:=Tryz.underlying20
 a20:=Tryz.isAgg20
 z20:=Tryz.sizeOf20
 v20:=Tryz.zeroValue20
 t21:=Tryz.underlying21
 a21:=Tryz.isAgg21
 z21:=Tryz.sizeOf21
 v21:=Tryz.zeroValue21
 t37:=Tryz.underlying64
 a37:=Tryz.isAgg64
 z37:=Tryz.sizeOf64
 v37:=Tryz.zeroValue64
 t46:=Tryz.underlying143
 a46:=Tryz.isAgg143
 z46:=Tryz.sizeOf143
 v46:=Tryz.zeroValue143
 t51:=Tryz.underlying166
 a51:=Tryz.isAgg166
 z51:=Tryz.sizeOf166
 v51:=Tryz.zeroValue166
 t53:=Tryz.underlying153
 a53:=Tryz.isAgg153
 z53:=Tryz.sizeOf153
 v53:=Tryz.zeroValue153
 t75:=Tryz.underlying91
 a75:=Tryz.isAgg91
 z75:=Tryz.sizeOf91
 v75:=Tryz.zeroValue91
 t76:=Tryz.underlying92
 a76:=Tryz.isAgg92
 z76:=Tryz.sizeOf92
 v76:=Tryz.zeroValue92
 t85:=Tryz.underlying136
 a85:=Tryz.isAgg136
 z85:=Tryz.sizeOf136
 v85:=Tryz.zeroValue136
 t127:=Tryz.underlying101
 a127:=Tryz.isAgg101
 z127:=Tryz.sizeOf101
 v127:=Tryz.zeroValue101
 t143:=Tryz.underlying193
 a143:=Tryz.isAgg193
 z143:=Tryz.sizeOf193
 v143:=Tryz.zeroValue193
 t145:=Tryz.underlying195
 a145:=Tryz.isAgg195
 z145:=Tryz.sizeOf195
 v145:=Tryz.zeroValue195
 t167:=Tryz.underlying135
 a167:=Tryz.isAgg135
 z167:=Tryz.sizeOf135
 v167:=Tryz.zeroValue135
 t168:=Tryz.underlying138
 a168:=Tryz.isAgg138
 z168:=Tryz.sizeOf138
 v168:=Tryz.zeroValue138
 t171:=Tryz.underlying185
 a171:=Tryz.isAgg185
 z171:=Tryz.sizeOf185
 v171:=Tryz.zeroValue185
 t173:=Tryz.underlying188
 a173:=Tryz.isAgg188
 z173:=Tryz.sizeOf188
 v173:=Tryz.zeroValue188
 t175:=Tryz.underlying154
 a175:=Tryz.isAgg154
 z175:=Tryz.sizeOf154
 v175:=Tryz.zeroValue154
 t210:=Tryz.underlying157
 a210:=Tryz.isAgg157
 z210:=Tryz.sizeOf157
 v210:=Tryz.zeroValue157
 t212:=Tryz.underlying204
 a212:=Tryz.isAgg204
 z212:=Tryz.sizeOf204
 v212:=Tryz.zeroValue204
 t213:=Tryz.underlying205
 a213:=Tryz.isAgg205
 z213:=Tryz.sizeOf205
 t232:=Tryz.underlying228
 a232:=Tryz.isAgg228
 z232:=Tryz.sizeOf228
 v232:=Tryz.zeroValue228
 t233:=Tryz.underlying229
 a233:=Tryz.isAgg229
 z233:=Tryz.sizeOf229
 v233:=Tryz.zeroValue229
 g15:=by kernel_rfl
 g16:=by kernel_rfl
 g17:=by kernel_rfl
 g18:=by kernel_rfl
 g19:=by kernel_rfl
 t80:=Tryz.underlying75
 a80:=Tryz.isAgg75
 z80:=Tryz.sizeOf75
 v80:=Tryz.zeroValue75
 i0:=by kernel_rfl
 i2:=by kernel_rfl
 i3:=by kernel_rfl
 i4:=by kernel_rfl
 i5:=by kernel_rfl
 i9:=by kernel_rfl
 i20:=by kernel_rfl
 i21:=by kernel_rfl
 i37:=by kernel_rfl
 i46:=by kernel_rfl
 i51:=by kernel_rfl
 i53:=by kernel_rfl
 i75:=by kernel_rfl
 i76:=by kernel_rfl
 i80:=by kernel_rfl
 i85:=by kernel_rfl
 i127:=by kernel_rfl
 i143:=by kernel_rfl
 i145:=by kernel_rfl
 i167:=by kernel_rfl
 i168:=by kernel_rfl
 i171:=by kernel_rfl
 i173:=by kernel_rfl
 i175:=by kernel_rfl
 i210:=by kernel_rfl
 i212:=by kernel_rfl
 i232:=by kernel_rfl
 i233:=by kernel_rfl
 m15:=by kernel_rfl
 m16:=by kernel_rfl
 m17:=by kernel_rfl
 m18:=by kernel_rfl
 m19:=by kernel_rfl
 c0:=by kernel_rfl
 c2:=by kernel_rfl
 c3:=by kernel_rfl
 c4:=by kernel_rfl
 c5:=by kernel_rfl
 c9:=by kernel_rfl
 c20:=by kernel_rfl
 c21:=by kernel_rfl
 c37:=by kernel_rfl
 c46:=by kernel_rfl
 c51:=by kernel_rfl
 c53:=by kernel_rfl
 c75:=by kernel_rfl
 c76:=by kernel_rfl
 c80:=by kernel_rfl
 c85:=by kernel_rfl
 c127:=by kernel_rfl
 c143:=by kernel_rfl
 c145:=by kernel_rfl
 c167:=by kernel_rfl
 c168:=by kernel_rfl
 c171:=by kernel_rfl
 c173:=by kernel_rfl
 c175:=by kernel_rfl
 c210:=by kernel_rfl
 c212:=by kernel_rfl
 c213:=by kernel_rfl
 c232:=by kernel_rfl
 c233:=by kernel_rfl }
theorem Tryz.strconv_Atoi_ok (s:dh) (hmax:s.size<=9223372036854775806) (v:Int) (h:Lib.atoiAll s.data.toList=.ok v) (w:cu) :
  Calls Tryz.prog 59 #[.string s] w fun e w'=>e=.returned (.tuple #[.int .i64 v,.nilIface])/\(w'=w\/∃t,w'=Lib.bytesWorld w 5 t):=Any.strconv_Atoi_ok Tryz.laysC172 s hmax v h w
theorem Tryz.strconv_Atoi_bad (s:dh) (hlim:s.size<=281474976710656) (h:Lib.atoiAll s.data.toList=Lib.atoiAll []) (ev:Value) (w:cu) (hv:w.cell? ⟨1,0,none⟩=some ev) (hev:ev=.nilIface\/∃te pe,ev=.iface te pe) :
  Calls Tryz.prog 59 #[.string s] w fun e w'=>∃N,e=.returned (.tuple #[.int .i64 (0),.iface 138 (.pointer (some ⟨N,0,none⟩))])/\w.heap.size<=N/\w'.heap[N]?=some (.cells #[.string ⟨#[65,116,111,105]⟩,.string s,ev] 157 (0,0))/\Below w.heap.size w w':=Any.strconv_Atoi_syntax Tryz.laysC172 s hlim h ev w hv hev
theorem Tryz.strconv_Atoi_range (s:dh) (hlim:s.size<=281474976710656) (h:Lib.atoiAll s.data.toList=.range) (ev:Value) (w:cu) (hv:w.cell? ⟨2,0,none⟩=some ev) (hev:ev=.nilIface\/∃te pe,ev=.iface te pe) :
  Calls Tryz.prog 59 #[.string s] w fun e w'=>∃N,e=.returned (.tuple #[.int .i64 (Lib.atoiSat s.data.toList),.iface 138 (.pointer (some ⟨N,0,none⟩))])/\w.heap.size<=N/\w'.heap[N]?=some (.cells #[.string ⟨#[65,116,111,105]⟩,.string s,ev] 157 (0,0))/\Below w.heap.size w w':=Any.strconv_Atoi_range Tryz.laysC172 s hlim h ev w hv hev
def Tryz.lays217_ren:Go.Shelf.Ren:=⟨fun|217=>57|266=>88|n=>n,fun|9=>9|5=>5|3=>3|n=>n,fun|n=>n⟩
theorem Tryz.lays217:Go.Proofs.Lays.n217 Tryz.prog Tryz.lays217_ren:={
 mixed:=by kernel_rfl
 f217:=Tryz.func57.trans (ni some (by kernel_rfl))
 f266:=Tryz.func88.trans (ni some (by kernel_rfl))
 t3:=Tryz.underlying3
 a3:=Tryz.isAgg3
 z3:=Tryz.sizeOf3
 v3:=Tryz.zeroValue3
 t5:=Tryz.underlying5
 a5:=Tryz.isAgg5
 z5:=Tryz.sizeOf5
 v5:=Tryz.zeroValue5
 t9:=Tryz.underlying9
 a9:=Tryz.isAgg9
 z9:=Tryz.sizeOf9
 v9:=Tryz.zeroValue9 }
open Go.RowKit Go.Lib in
theorem Tryz.stringslite_IndexByte (s:dh) (c:Int) (w:cu) :
  Calls Tryz.prog 57 #[.string s,.int .u8 c] w fun e w'=>e=.returned (.int .i64 (Lib.indexByte s.data.toList c.toNat.toUInt8))/\w'=w:=Any.stringslite_IndexByte Tryz.lays217 s c w
def Tryz.lays102_ren:Go.Shelf.Ren:=⟨fun|102=>14|209=>36|207=>65|n=>n,fun|9=>9|4=>4|3=>3|n=>n,fun|n=>n⟩
theorem Tryz.lays102:Go.Proofs.Lays.n102 Tryz.prog Tryz.lays102_ren:={
 mixed:=by kernel_rfl
 f102:=Tryz.func14.trans (ni some (by kernel_rfl))
 f207:=Tryz.func65.trans (ni some (by kernel_rfl))
 f209:=Tryz.func36.trans (ni some (by kernel_rfl))
 t3:=Tryz.underlying3
 a3:=Tryz.isAgg3
 z3:=Tryz.sizeOf3
 v3:=Tryz.zeroValue3
 t4:=Tryz.underlying4
 a4:=Tryz.isAgg4
 z4:=Tryz.sizeOf4
 v4:=Tryz.zeroValue4
 t9:=Tryz.underlying9
 a9:=Tryz.isAgg9
 z9:=Tryz.sizeOf9
 v9:=Tryz.zeroValue9 }
theorem Tryz.strings_TrimSuffix (s p:dh) (w:cu) (hs:s.size<=9223372036854775807) :
  Calls Tryz.prog 14 #[.string s,.string p] w fun e w'=>e=.returned (.string ⟨(Lib.trimSuffix s.data.toList p.data.toList).toArray⟩)/\w'=w:=Any.strings_TrimSuffix Tryz.lays102 s p w hs
def Tryz.lays146_ren:Go.Shelf.Ren:=⟨fun|146=>13|221=>35|268=>62|138=>63|143=>64|195=>94|197=>95|218=>96|219=>97|260=>121|217=>57|225=>122|224=>123|267=>124|266=>88|314=>141|n=>n,fun|9=>9|31=>40|3=>3|4=>4|0=>0|105=>118|21=>21|5=>5|46=>143|119=>162|139=>165|138=>164|146=>167|51=>166|n=>n,fun|1=>0|3=>4|4=>5|n=>n⟩
theorem Tryz.lays146:Go.Proofs.Lays.n146 Tryz.prog Tryz.lays146_ren:={
 mixed:=by kernel_rfl
 f138:=Tryz.func63.trans (ni some (by kernel_rfl))
 f143:=Tryz.func64.trans (ni some (by kernel_rfl))
 f146:=Tryz.func13.trans (ni some (by kernel_rfl))
 f195:=Tryz.func94.trans (ni some (by kernel_rfl))
 f197:=Tryz.func95.trans (ni some (by kernel_rfl))
 f217:=Tryz.func57.trans (ni some (by kernel_rfl))
 f218:=Tryz.func96.trans (ni some (by kernel_rfl))
 f219:=Tryz.func97.trans (ni some (by kernel_rfl))
 f221:=Tryz.func35.trans (ni some (by kernel_rfl))
 f224:=Tryz.func123.trans (ni some (by kernel_rfl))
 f225:=Tryz.func122.trans (ni some (by kernel_rfl))
 f260:=Tryz.func121.trans (ni some (by kernel_rfl))
 f266:=Tryz.func88.trans (ni some (by kernel_rfl))
 f267:=Tryz.func124.trans (ni some (by kernel_rfl))
 f268:=Tryz.func62.trans (ni some (by kernel_rfl))
 f314:=Tryz.func141.trans (ni some (by kernel_rfl))
 t0:=Tryz.underlying0
 a0:=Tryz.isAgg0
 z0:=Tryz.sizeOf0
 v0:=Tryz.zeroValue0
 t3:=Tryz.underlying3
 a3:=Tryz.isAgg3
 z3:=Tryz.sizeOf3
 v3:=Tryz.zeroValue3
 t4:=Tryz.underlying4
 a4:=Tryz.isAgg4
 z4:=Tryz.sizeOf4
 v4:=Tryz.zeroValue4
 t5:=Tryz.underlying5
 a5:=Tryz.isAgg5
 z5:=Tryz.sizeOf5
 v5:=Tryz.zeroValue5
 t9:=Tryz.underlying9
 a9:=Tryz.isAgg9
 z9:=Tryz.sizeOf9
 v9:=Tryz.zeroValue9
 t21:=Tryz.underlying21
 a21:=Tryz.isAgg21
 z21:=Tryz.sizeOf21
 v21:=Tryz.zeroValue21
 t31:=Tryz.underlying40
 a31:=Tryz.isAgg40
 z31:=Tryz.sizeOf40
 v31:=Tryz.zeroValue40
 t46:=Tryz.underlying143
 a46:=Tryz.isAgg143
 z46:=Tryz.sizeOf143
 v46:=Tryz.zeroValue143
 t51:=Tryz.underlying166
 a51:=Tryz.isAgg166
 z51:=Tryz.sizeOf166
 v51:=Tryz.zeroValue166
 t105:=Tryz.underlying118
 a105:=Tryz.isAgg118
 z105:=Tryz.sizeOf118
 v105:=Tryz.zeroValue118
 t119:=Tryz.underlying162
 a119:=Tryz.isAgg162
 z119:=Tryz.sizeOf162
 t138:=Tryz.underlying164
 a138:=Tryz.isAgg164
 z138:=Tryz.sizeOf164
 v138:=Tryz.zeroValue164
 t139:=Tryz.underlying165
 a139:=Tryz.isAgg165
 z139:=Tryz.sizeOf165
 v139:=Tryz.zeroValue165
 t146:=Tryz.underlying167
 a146:=Tryz.isAgg167
 z146:=Tryz.sizeOf167
 v146:=Tryz.zeroValue167
 g1:=by kernel_rfl
 g3:=by kernel_rfl
 g4:=by kernel_rfl }
theorem Tryz.strings_Split (s sep:dh) (m:Int) (w:cu) (hs:s.size<4294967281) (hm:w.cell? ⟨0,0,none⟩=some (.int .i64 m)) (h1:1<=sep.size) :
  Calls Tryz.prog 13 #[.string s,.string sep] w fun e w' =>
   e=.returned (.slice (some ⟨w.heap.size,0,none⟩) (Lib.countB s sep+1) (Lib.countB s sep+1))/\w'=w.alloc (.cells ((Lib.splitB sep 0 (Lib.countB s sep) s).map Value.string).toArray 9):=Any.strings_Split Tryz.lays146 (by kernel_rfl) s sep m w hs hm h1
def Tryz.pmRen:Go.Shelf.Ren:=⟨fun|169=>39|167=>99|166=>100|240=>129|276=>153|n=>n,fun|70=>71|9=>9|0=>0|72=>73|37=>64|127=>101|3=>3|5=>5|4=>4|20=>20|75=>91|80=>75|164=>183|190=>92|n=>n,fun|n=>n⟩
theorem Tryz.lays166:Go.Proofs.Lays.n166 Tryz.prog Tryz.pmRen:={
 mixed:=by kernel_rfl
 f166:=Tryz.func100.trans (ni some (by kernel_rfl))
 f240:=Tryz.func129.trans (ni some (by kernel_rfl))
 f276:=Tryz.func153.trans (ni some (by kernel_rfl))
 t0:=Tryz.underlying0
 a0:=Tryz.isAgg0
 z0:=Tryz.sizeOf0
 v0:=Tryz.zeroValue0
 t3:=Tryz.underlying3
 a3:=Tryz.isAgg3
 z3:=Tryz.sizeOf3
 v3:=Tryz.zeroValue3
 t4:=Tryz.underlying4
 a4:=Tryz.isAgg4
 z4:=Tryz.sizeOf4
 v4:=Tryz.zeroValue4
 t9:=Tryz.underlying9
 a9:=Tryz.isAgg9
 z9:=Tryz.sizeOf9
 v9:=Tryz.zeroValue9
 t20:=Tryz.underlying20
 a20:=Tryz.isAgg20
 z20:=Tryz.sizeOf20
 v20:=Tryz.zeroValue20
 t37:=Tryz.underlying64
 a37:=Tryz.isAgg64
 z37:=Tryz.sizeOf64
 v37:=Tryz.zeroValue64
 t70:=Tryz.underlying71
 a70:=Tryz.isAgg71
 z70:=Tryz.sizeOf71
 v70:=Tryz.zeroValue71
 t72:=Tryz.underlying73
 a72:=Tryz.isAgg73
 z72:=Tryz.sizeOf73
 v72:=Tryz.zeroValue73
 t75:=Tryz.underlying91
 a75:=Tryz.isAgg91
 z75:=Tryz.sizeOf91
 v75:=Tryz.zeroValue91
 t164:=Tryz.underlying183
 a164:=Tryz.isAgg183
 z164:=Tryz.sizeOf183
 v164:=Tryz.zeroValue183 }
theorem Tryz.lays167:Go.Proofs.Lays.n167 Tryz.prog Tryz.pmRen:={
 mixed:=by kernel_rfl
 f167:=Tryz.func99.trans (ni some (by kernel_rfl))
 f240:=Tryz.func129.trans (ni some (by kernel_rfl))
 f276:=Tryz.func153.trans (ni some (by kernel_rfl))
 t0:=Tryz.underlying0
 a0:=Tryz.isAgg0
 z0:=Tryz.sizeOf0
 v0:=Tryz.zeroValue0
 t4:=Tryz.underlying4
 a4:=Tryz.isAgg4
 z4:=Tryz.sizeOf4
 v4:=Tryz.zeroValue4
 t5:=Tryz.underlying5
 a5:=Tryz.isAgg5
 z5:=Tryz.sizeOf5
 v5:=Tryz.zeroValue5
 t9:=Tryz.underlying9
 a9:=Tryz.isAgg9
 z9:=Tryz.sizeOf9
 v9:=Tryz.zeroValue9
 t20:=Tryz.underlying20
 a20:=Tryz.isAgg20
 z20:=Tryz.sizeOf20
 v20:=Tryz.zeroValue20
 t37:=Tryz.underlying64
 a37:=Tryz.isAgg64
 z37:=Tryz.sizeOf64
 v37:=Tryz.zeroValue64
 t70:=Tryz.underlying71
 a70:=Tryz.isAgg71
 z70:=Tryz.sizeOf71
 v70:=Tryz.zeroValue71
 t72:=Tryz.underlying73
 a72:=Tryz.isAgg73
 z72:=Tryz.sizeOf73
 v72:=Tryz.zeroValue73
 t75:=Tryz.underlying91
 a75:=Tryz.isAgg91
 z75:=Tryz.sizeOf91
 v75:=Tryz.zeroValue91
 t164:=Tryz.underlying183
 a164:=Tryz.isAgg183
 z164:=Tryz.sizeOf183
 v164:=Tryz.zeroValue183 }
theorem Tryz.lays169:Go.Proofs.Lays.n169 Tryz.prog Tryz.pmRen:={
 mixed:=by kernel_rfl
 f169:=Tryz.func39.trans (ni some (by kernel_rfl))
 t0:=Tryz.underlying0
 a0:=Tryz.isAgg0
 z0:=Tryz.sizeOf0
 v0:=Tryz.zeroValue0
 t3:=Tryz.underlying3
 a3:=Tryz.isAgg3
 z3:=Tryz.sizeOf3
 v3:=Tryz.zeroValue3
 t9:=Tryz.underlying9
 a9:=Tryz.isAgg9
 z9:=Tryz.sizeOf9
 v9:=Tryz.zeroValue9
 t37:=Tryz.underlying64
 a37:=Tryz.isAgg64
 z37:=Tryz.sizeOf64
 v37:=Tryz.zeroValue64
 t70:=Tryz.underlying71
 a70:=Tryz.isAgg71
 z70:=Tryz.sizeOf71
 v70:=Tryz.zeroValue71
 t72:=Tryz.underlying73
 a72:=Tryz.isAgg73
 z72:=Tryz.sizeOf73
 v72:=Tryz.zeroValue73
 t127:=Tryz.underlying101
 a127:=Tryz.isAgg101
 z127:=Tryz.sizeOf101
 v127:=Tryz.zeroValue101 }
theorem Tryz.pmExtra:Builder.Extra Tryz.prog Tryz.pmRen:={
 sizeBuilder:=by kernel_rfl
 liesBuilder:=by kernel_rfl
 t5:=Tryz.underlying5
 a5:=Tryz.isAgg5
 z5:=Tryz.sizeOf5
 v5:=Tryz.zeroValue5
 infoByte:=by kernel_rfl
 cellsByte:=by kernel_rfl
 sizeByte:=by kernel_rfl
 neB5:=by decide }
theorem ao5 (v:Int) (w:cu) (h:v=0\/v=1) :
  Calls Tryz.prog 158 #[.int .i64 v] w fun e w'=>e=.returned (.string (flT v))/\w'=w:=by
 rcases h with rfl|rfl
 all_goals
  go_enter Tryz.func158,Tryz.ntmps158;go_wp2;go_ret;exact⟨rfl,rfl⟩
def ahe:List (dh×Int×Int):=[(⟨#[111,114]⟩,1,18),(⟨#[120,111,114]⟩,1,19),(⟨#[97,110,100]⟩,2,17),(⟨#[61]⟩,3,11),(⟨#[60,62]⟩,3,12),(⟨#[60]⟩,3,13),(⟨#[60,61]⟩,3,14),(⟨#[62]⟩,3,15),(⟨#[62,61]⟩,3,16),(⟨#[43]⟩,4,6),(⟨#[45]⟩,4,7),(⟨#[42]⟩,5,8),(⟨#[47]⟩,5,9),(⟨#[109,111,100]⟩,5,10)]
def a1p (x:dh×Int×Int):List Value:=[.string x.1,.int .i64 x.2.1,.int .i64 x.2.2]
def Fq:List Value:=ahe.flatMap a1p
def opAt (k:Nat):dh×Int×Int:=ahe.getD k (⟨#[]⟩,0,0)
theorem u158:Tryz.prog.underlying 161=some (.array 14 160):=by kernel_rfl
theorem a9r:(Tryz.prog.info? 161).map (·.size)=some Fq.length:=by kernel_rfl
theorem a1q (w:cu):(Instr.index 161 (.agg Fq.toArray) (.int .i64 ((0:Nat):Int))).run Tryz.prog w=.ok (.agg #[.string (opAt 0).1,.int .i64 (opAt 0).2.1,.int .i64 (opAt 0).2.2]) w:=by kernel_rfl
theorem a1r (w:cu):(Instr.index 161 (.agg Fq.toArray) (.int .i64 ((1:Nat):Int))).run Tryz.prog w=.ok (.agg #[.string (opAt 1).1,.int .i64 (opAt 1).2.1,.int .i64 (opAt 1).2.2]) w:=by kernel_rfl
theorem a1s (w:cu):(Instr.index 161 (.agg Fq.toArray) (.int .i64 ((2:Nat):Int))).run Tryz.prog w=.ok (.agg #[.string (opAt 2).1,.int .i64 (opAt 2).2.1,.int .i64 (opAt 2).2.2]) w:=by kernel_rfl
theorem a1t (w:cu):(Instr.index 161 (.agg Fq.toArray) (.int .i64 ((3:Nat):Int))).run Tryz.prog w=.ok (.agg #[.string (opAt 3).1,.int .i64 (opAt 3).2.1,.int .i64 (opAt 3).2.2]) w:=by kernel_rfl
theorem a1u (w:cu):(Instr.index 161 (.agg Fq.toArray) (.int .i64 ((4:Nat):Int))).run Tryz.prog w=.ok (.agg #[.string (opAt 4).1,.int .i64 (opAt 4).2.1,.int .i64 (opAt 4).2.2]) w:=by kernel_rfl
theorem a1v (w:cu):(Instr.index 161 (.agg Fq.toArray) (.int .i64 ((5:Nat):Int))).run Tryz.prog w=.ok (.agg #[.string (opAt 5).1,.int .i64 (opAt 5).2.1,.int .i64 (opAt 5).2.2]) w:=by kernel_rfl
theorem a1w (w:cu):(Instr.index 161 (.agg Fq.toArray) (.int .i64 ((6:Nat):Int))).run Tryz.prog w=.ok (.agg #[.string (opAt 6).1,.int .i64 (opAt 6).2.1,.int .i64 (opAt 6).2.2]) w:=by kernel_rfl
theorem a1x (w:cu):(Instr.index 161 (.agg Fq.toArray) (.int .i64 ((7:Nat):Int))).run Tryz.prog w=.ok (.agg #[.string (opAt 7).1,.int .i64 (opAt 7).2.1,.int .i64 (opAt 7).2.2]) w:=by kernel_rfl
theorem a1y (w:cu):(Instr.index 161 (.agg Fq.toArray) (.int .i64 ((8:Nat):Int))).run Tryz.prog w=.ok (.agg #[.string (opAt 8).1,.int .i64 (opAt 8).2.1,.int .i64 (opAt 8).2.2]) w:=by kernel_rfl
theorem a1z (w:cu):(Instr.index 161 (.agg Fq.toArray) (.int .i64 ((9:Nat):Int))).run Tryz.prog w=.ok (.agg #[.string (opAt 9).1,.int .i64 (opAt 9).2.1,.int .i64 (opAt 9).2.2]) w:=by kernel_rfl
theorem axn (w:cu):(Instr.index 161 (.agg Fq.toArray) (.int .i64 ((10:Nat):Int))).run Tryz.prog w=.ok (.agg #[.string (opAt 10).1,.int .i64 (opAt 10).2.1,.int .i64 (opAt 10).2.2]) w:=by kernel_rfl
theorem axo (w:cu):(Instr.index 161 (.agg Fq.toArray) (.int .i64 ((11:Nat):Int))).run Tryz.prog w=.ok (.agg #[.string (opAt 11).1,.int .i64 (opAt 11).2.1,.int .i64 (opAt 11).2.2]) w:=by kernel_rfl
theorem axp (w:cu):(Instr.index 161 (.agg Fq.toArray) (.int .i64 ((12:Nat):Int))).run Tryz.prog w=.ok (.agg #[.string (opAt 12).1,.int .i64 (opAt 12).2.1,.int .i64 (opAt 12).2.2]) w:=by kernel_rfl
theorem axq (w:cu):(Instr.index 161 (.agg Fq.toArray) (.int .i64 ((13:Nat):Int))).run Tryz.prog w=.ok (.agg #[.string (opAt 13).1,.int .i64 (opAt 13).2.1,.int .i64 (opAt 13).2.2]) w:=by kernel_rfl
theorem arq:∀(k:Nat) (_:k<14) (w:cu),(Instr.index 161 (.agg Fq.toArray) (.int .i64 k)).run Tryz.prog w=.ok (.agg #[.string (opAt k).1,.int .i64 (opAt k).2.1,.int .i64 (opAt k).2.2]) w
 | 0,_,w=>a1q w
 | 1,_,w=>a1r w
 | 2,_,w=>a1s w
 | 3,_,w=>a1t w
 | 4,_,w=>a1u w
 | 5,_,w=>a1v w
 | 6,_,w=>a1w w
 | 7,_,w=>a1x w
 | 8,_,w=>a1y w
 | 9,_,w=>a1z w
 | 10,_,w=>axn w
 | 11,_,w=>axo w
 | 12,_,w=>axp w
 | 13,_,w=>axq w
 | k+14,h,_=>absurd h (by omega)
theorem a9s:∀k,k<14->sgT (opAt k).2.2=(opAt k).1:=by decide
theorem a9t (op:Int) (h:∀j,j<14->(opAt j).2.2≠op):sgT op=⟨#[]⟩:=by
 have h0:¬op=18:=fun e=>h 0 (by decide) e.symm
 have h1:¬op=19:=fun e=>h 1 (by decide) e.symm
 have h2:¬op=17:=fun e=>h 2 (by decide) e.symm
 have h3:¬op=11:=fun e=>h 3 (by decide) e.symm
 have h4:¬op=12:=fun e=>h 4 (by decide) e.symm
 have h5:¬op=13:=fun e=>h 5 (by decide) e.symm
 have h6:¬op=14:=fun e=>h 6 (by decide) e.symm
 have h7:¬op=15:=fun e=>h 7 (by decide) e.symm
 have h8:¬op=16:=fun e=>h 8 (by decide) e.symm
 have h9:¬op=6:=fun e=>h 9 (by decide) e.symm
 have h10:¬op=7:=fun e=>h 10 (by decide) e.symm
 have h11:¬op=8:=fun e=>h 11 (by decide) e.symm
 have h12:¬op=9:=fun e=>h 12 (by decide) e.symm
 have h13:¬op=10:=fun e=>h 13 (by decide) e.symm
 simp only[sgT,bf h0,bf h1,bf h2,bf h3,bf h4,bf h5,bf h6,bf h7,bf h8,bf h9,bf h10,bf h11,bf h12,bf h13]
theorem Zh {P:Program} {ops:Array Oper} {rest:List Oper} {op:Oper} {a:Act} {w:cu} {Q:Exit->Act->cu->Prop} (hgd:op.guard=none) (ty:TypeId) (x i:Operand) (ho:op.op=.index ty x i)
  (vx vi v:Value) (hx:a.eval x=vx) (hi:a.eval i=vi) (hr:(Instr.index ty vx vi).run P w=.ok v w) (h:wpList P ops Q rest (a.put op.dst v) w):wpList P ops Q (op::rest) a w :=
 wpList_plain hgd fun _ hK=>by
  unfold Oper.wp execOp;simp only[ho,hx,hi,Sem.run_bind,hr,Result.andThen_ok,Sem.run_pure];exact hK _ _ h
theorem aqi (op:Int) (w:cu) (h:w.rangeAt 3 0 Fq) :
  Calls Tryz.prog 159 #[.int .i64 op] w (Ans (.string (sgT op)) w):=by
 have HH:=ak h;have HP:=ak arq;clear h;go_enter Tryz.func159,Tryz.ntmps159;go_wp2_with (refine wpList_load_mid rfl 161 (.global 3) rfl 3 0 rfl Fq (.array 14 160) (uh HH) u158 rfl a9r ?_);generalize Fq.toArray=OC at *
 go_loopg [6] 14 (fun g i wr=>∃(k:Nat),k<=14/\g=14-k/\i=.int .i64 k/\(∀j,j<k->(opAt j).2.2≠op)/\Below w.heap.size w wr)
 case atStart=>exact⟨0,jg _,rfl,rfl,fun j hj=>absurd hj (yu _),iq _ _⟩
 case round =>
  obtain⟨k,hk,hg,rfl,hno,hbl⟩:=hrel;have HG:=ak hg;have HN:=ak hno;clear hg hno
  by_cases hlt:k<14
  ·have HI:=ak (uh HP k hlt)
   have HS:=ak (a9s k hlt);have HE:Hid (opAt k=opAt k):=rfl
   by_cases he:(opAt k).2.2=op
   ·subst he
    generalize opAt k=p at *;obtain⟨s,l,o⟩:=p;simp only at *;go_wp2_with (refine Zh rfl 161 (.tmp 5) (.tmp 6) rfl (.agg OC) (.int .i64 k) _ rfl rfl (uh HI _) ?_);go_ret;exact⟨Bg (uh HS).symm,hbl.alloc hbl.size _⟩
   ·have Zp:Hid (∀j,j<k+1->(opAt j).2.2≠op):=fun j hj=>by
     by_cases hjk:j=k
     ·subst hjk;exact he
     ·exact uh HN j (by omega)
    generalize hq:opAt k=p at *;obtain⟨s,l,o⟩:=p;simp only at *;have HQ:=ak hq;clear hq;go_wp2_with (refine Zh rfl 161 (.tmp 5) (.tmp 6) rfl (.agg OC) (.int .i64 k) _ rfl rfl (uh HI _) ?_)
    go_roundg (14-(k+1))
    case measure=>have:=uh HG;omega
    case rel=>exact⟨k+1,by omega,rfl,by go_num,uh Zp,hbl.alloc hbl.size _⟩
  ·have e:k=14:=by omega
   subst e;go_wp2;go_ret;exact⟨Bg (a9t op (uh HN)).symm,hbl⟩
structure Env (w:cu):Prop where
 ops:w.rangeAt 3 0 Fq
 tab : Lib.TabIs Tryz.prog w "internal/strconv.uint64pow10" .u64 Lib.pow10Tab
 three:9<=w.heap.size
theorem a9u : Tryz.prog.globalNamed "internal/strconv.uint64pow10" = some 6 := by kernel_rfl
theorem Env.below {B:Nat} {w w':cu} (h:Env w) (hb:Below B w w') (hB:9<=B):Env w':=by
 refine⟨fun j v hv=>?_,?_,ku h.three hb.size⟩
 ·rw[hb.cell (p:=⟨3,_,none⟩) (show 3<B by omega)]
  exact h.ops j v hv
 ·have:=h.tab
  unfold Lib.TabIs World.var? at *;rw[a9u] at *;simp only[Option.bind_some] at *;rw[hb.block 6 (by omega)];exact this
theorem a5t (w:cu) (k:Nat) (os:Array Obj):Below w.heap.size w (Sort.grow (w.drewN k) os):=by
 refine⟨rfl,rfl,rfl,?_,fun i hi=>?_⟩
 ·show w.heap.size<=(w.heap++os).size
  rw[Array.size_append];omega
 ·show (w.heap++os)[i]?=w.heap[i]?
  rw[Array.getElem?_append_left hi]
theorem ahp (t:Int) (w:cu) (h:t=1\/t=2):Calls Tryz.prog 68 #[.int .i64 t] w fun e w'=>e=.returned (.string (Bf t))/\w'=w:=by
 rcases h with rfl|rfl
 all_goals
  go_enter Tryz.func68,Tryz.ntmps68;go_wp2;go_ret;exact⟨rfl,rfl⟩
theorem ady (n:Int) (h:Oe n) (w:cu) (hE:Env w):Calls Tryz.prog 69 #[.int .i64 n] w (Ans (.string (qo n)) w):=by
 unfold Oe at h;refine(Tryz.strconv_Itoa n (by omega) (by omega) w hE.tab).mono ?_;rintro e w1 ⟨rfl,k1,os1,rfl⟩;exact⟨rfl,a5t _ k1 os1⟩
end Go.Proofs.YtfeejeflmcapoaaGreatDoor
