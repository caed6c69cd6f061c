import Derived.Test.YtlcgnbcgmljpaaaGreatM11
namespace Go.Proofs.YtlcgnbcgmljpaaaGreat
open Go.RowKit
set_option linter.unusedSimpArgs false
set_option linter.unusedVariables false
structure PL where
  o : Option (dh × PL × Option (dh × PL × dh × PL))
abbrev PL.nil : PL := ⟨none⟩
abbrev PL.leaf (s : dh) (r : PL) : PL := ⟨some (s, r, none)⟩
abbrev PL.br (s : dh) (a : PL) (el : dh) (b : PL) (en : dh) (r : PL) : PL := ⟨some (s, r, some (el, a, en, b))⟩
theorem PL.ind {motive : PL → Prop} (nil : motive .nil) (leaf : ∀ s r, motive r → motive (.leaf s r)) (br : ∀ s a el b en r, motive a → motive b → motive r → motive (.br s a el b en r)) : ∀ t, motive t
  | ⟨none⟩ => nil
  | ⟨some (s, r, none)⟩ => leaf s r (PL.ind nil leaf br r)
  | ⟨some (s, r, some (el, a, en, b))⟩ => br s a el b en r (PL.ind nil leaf br a) (PL.ind nil leaf br b) (PL.ind nil leaf br r)
theorem PL.inv {motive : PL → Prop} (t : PL) (nil : motive .nil) (leaf : ∀ s r, motive (.leaf s r)) (br : ∀ s a el b en r, motive (.br s a el b en r)) : motive t := PL.ind nil (fun s r _ => leaf s r) (fun s a el b en r _ _ _ => br s a el b en r) t
def PL.flat:PL->List dh
 | ⟨none⟩=>[]
 | ⟨some (s, r, none)⟩=>s::r.flat
 | ⟨some (s, r, some (el, a, en, b))⟩=>s::(a.flat++el::(b.flat++en::r.flat))
def PL.wf:PL->Prop
 | ⟨none⟩=>True
 | ⟨some (s, r, none)⟩=>(s.kind≠4∧s.kind≠5∧s.kind≠6)∧r.wf
 | ⟨some (s, r, some (el, a, en, b))⟩=>(s.kind=4∧el.kind=5∧en.kind=6)∧a.wf∧b.wf∧r.wf
def PL.deep:PL->Int->Prop
 | ⟨none⟩,_=>True
 | ⟨some (_, r, none)⟩,d=>d<=20∧r.deep d
 | ⟨some (_, r, some (_, a, _, b))⟩,d=>d<=20∧a.deep (d+1)∧b.deep (d+1)∧r.deep d
def PL.cost (kn:dh->Int):PL->Int->Int
 | ⟨none⟩,s=>s
 | ⟨some (st, r, none)⟩,s=>r.cost kn (Dn (s+(if st.kind=3 then 1+kn st else 1)))
 | ⟨some (_, r, some (_, a, _, b))⟩,s=>r.cost kn (Dn (s+(1+maxS (a.cost kn 0) (b.cost kn 0))))
def PL.free:PL->List ByteArray->Prop
 | ⟨none⟩,_=>True
 | ⟨some (s, r, none)⟩,H=>(∀x,x∈H->Oc s x=false)∧r.free H
 | ⟨some (s, r, some (_, a, _, b))⟩,H=>a.free (s.name::H)∧b.free (s.name::H)∧r.free H
def PL.O1:PL->Prop
 | ⟨none⟩=>True
 | ⟨some (_, r, none)⟩=>r.O1
 | ⟨some (s, r, some (_, a, _, b))⟩=>((∀u,u∈a.flat->Oc u s.name=false)∧∀u,u∈b.flat->Oc u s.name=false)∧a.O1∧b.O1∧r.O1
theorem Gx (s:dh) (l:List dh):dn (s::l)=s.kind::dn l:=rfl
theorem Ub (l m:List dh):dn (l++m)=dn l++dn m:=List.map_append
theorem Az (l:List dh):(dn l).length=l.length:=List.length_map _
theorem ajw (t:PL):∀(rest:List Int) (j:Nat) (d o:Int),t.wf->1<=d->Cc (dn t.flat++rest) j d o=Cc rest (j+t.flat.length) d o:=by
 induction t using PL.ind with
 | nil=>intro rest j d o _ _;simp[PL.flat,dn]
 | leaf s r ih =>
  intro rest j d o h hd
  obtain⟨⟨h4,h5,h6⟩,hr⟩:=h
  simp only[PL.flat,Gx,List.cons_append,List.length_cons]
  rw[Cc,if_neg h4,if_neg h5,if_neg h6,ih _ _ _ _ hr hd]
  congr 1;omega
 | br s a el b en r iha ihb ihr =>
  intro rest j d o h hd
  obtain⟨⟨h4,h5,h6⟩,ha,hb,hr⟩:=h
  simp only[PL.flat,Gx,Ub,List.cons_append,List.append_assoc,List.length_cons,List.length_append]
  rw[Cc,if_pos h4,iha _ _ _ _ ha (by omega),Cc,if_neg (by omega),if_pos h5,if_neg (by omega),ihb _ _ _ _ hb (by omega),Cc,if_neg (by omega),if_neg (by omega),if_pos h6,if_neg (by omega),ihr _ _ _ _ hr (by omega)]
  congr 1<;>omega
theorem Zl (ks:List Int) (i:Nat) (a b:PL) (post:List Int) (ha:a.wf) (hb:b.wf) (h:ks.drop i=4::(dn a.flat++5::(dn b.flat++6::post))) :
  je ks i=(((i+1+a.flat.length:Nat):Int),((i+1+a.flat.length+1+b.flat.length:Nat):Int)):=by
 unfold je
 rw[h,Cc,if_pos rfl,ajw a _ _ _ _ ha (by omega),Cc,if_neg (by omega),if_pos rfl,if_pos (by omega),if_neg (by omega),ajw b _ _ _ _ hb (by omega),Cc,if_neg (by omega),if_neg (by omega),if_pos rfl,if_pos (by omega)]
theorem acp {α:Type} (pre:List α) (x:α) (A R:List α) (i:Nat) (hi:i=pre.length) (q:Nat) (hq:q=i+1+A.length):ug (pre++x::(A++R)) (i+1) q=A:=by
 subst hi hq
 unfold ug
 have e:(pre++x::(A++R)).drop (pre.length+1)=A++R:=by
  rw[List.drop_append]
  simp
 rw[e,show pre.length+1+A.length-(pre.length+1)=A.length by omega,List.take_left]
theorem Zg (pre l:List Int):(pre++l).drop pre.length=l:=List.drop_left
theorem au2 (t:PL):∀(f n:Nat) (pre:List Int) (d:Int),t.wf->t.deep d->t.flat.length<=f->t.flat.length<n->Iw (zi f) (pre++dn t.flat) d n pre.length=true:=by
 induction t using PL.ind with
 | nil =>
  intro f n pre d _ _ _ _
  have:=agv (zi f) pre d n
  simpa[PL.flat,dn] using this
 | leaf s r ih =>
  intro f n pre d h hd hf hn
  obtain⟨⟨h4,h5,h6⟩,hr⟩:=h
  simp only[PL.flat,List.length_cons] at hf hn
  obtain⟨n,rfl⟩:∃m,n=m+1:=⟨n-1,by omega⟩
  rw[Qv _ _ _ _ _ (by simp[PL.flat,Gx])]
  have e:(pre++dn (PL.leaf s r).flat)[pre.length]'(by simp[PL.flat,Gx])=s.kind:=by simp[PL.flat,Gx]
  rw[e,if_neg (by omega),if_neg h4]
  have:=ih f n (pre++[s.kind]) d hr hd.2 (by omega) (by omega)
  simpa[PL.flat,Gx] using this
 | br s a el b en r iha ihb ihr =>
  intro f n pre d h hd hf hn
  obtain⟨⟨h4,h5,h6⟩,ha,hb,hr⟩:=h
  obtain⟨hd0,hda,hdb,hdr⟩:=hd
  simp only[PL.flat,List.length_cons,List.length_append] at hf hn
  obtain⟨n,rfl⟩:∃m,n=m+1:=⟨n-1,by omega⟩
  obtain⟨f,rfl⟩:∃m,f=m+1:=⟨f-1,by omega⟩
  have ek:pre++dn (PL.br s a el b en r).flat=pre++4::(dn a.flat++5::(dn b.flat++6::dn r.flat)):=by
   simp[PL.flat,Gx,Ub,h4,h5,h6]
  rw[ek]
  rw[Qv _ _ _ _ _ (by simp)]
  have e:(pre++4::(dn a.flat++5::(dn b.flat++6::dn r.flat)))[pre.length]'(by simp)=4:=by simp
  rw[e,if_neg (by omega),if_pos rfl,Zl _ _ a b (dn r.flat) ha hb (Zg _ _)]
  rw[if_neg (by omega)]
  have hin:¬((((pre.length:Nat):Int)+1<((pre.length+1+a.flat.length:Nat):Int)∨((pre.length+1+a.flat.length:Nat):Int)+1<((pre.length+1+a.flat.length+1+b.flat.length:Nat):Int))∧20<d+1):=by
   rintro⟨h1|h1,h2⟩
   ·cases a using PL.inv with
    | nil=>simp[PL.flat] at h1
    | leaf _ _=>have:=hda.1;omega
    | br _ _ _ _ _ _=>have:=hda.1;omega
   ·cases b using PL.inv with
    | nil=>simp[PL.flat] at h1
    | leaf _ _=>have:=hdb.1;omega
    | br _ _ _ _ _ _=>have:=hdb.1;omega
  rw[if_neg hin]
  simp only[Int.toNat_natCast]
  rw[acp pre 4 (dn a.flat) _ pre.length rfl _ (by rw[Az])]
  have e2:ug (pre++4::(dn a.flat++5::(dn b.flat++6::dn r.flat))) (pre.length+1+a.flat.length+1) (pre.length+1+a.flat.length+1+b.flat.length)=dn b.flat:=by
   have:=acp (pre++4::dn a.flat) 5 (dn b.flat) (6::dn r.flat) (pre.length+1+a.flat.length) (by simp[Az];omega) (pre.length+1+a.flat.length+1+b.flat.length) (by rw[Az])
   simpa using this
  rw[e2]
  have ra:zi (f+1) (dn a.flat) (d+1)=true:=by
   have:=iha f ((dn a.flat).length+1) [] (d+1) ha hda (by omega) (by rw[Az];omega)
   simpa[zi] using this
  have rb:zi (f+1) (dn b.flat) (d+1)=true:=by
   have:=ihb f ((dn b.flat).length+1) [] (d+1) hb hdb (by omega) (by rw[Az];omega)
   simpa[zi] using this
  rw[ra,rb]
  simp only[Bool.true_eq_false,if_false]
  have:=ihr (f+1) n (pre++4::(dn a.flat++5::(dn b.flat++[6]))) d hr hdr (by omega) (by omega)
  have el:(pre++4::(dn a.flat++5::(dn b.flat++[6]))).length=pre.length+1+a.flat.length+1+b.flat.length+1:=by simp[Az];omega
  rw[el] at this
  simpa using this
theorem aq6 (ks:List Int):∀(j:Nat) (d o:Int),0<=(Cc ks j d o).2->(∃e:Nat,(Cc ks j d o).2=(j+e:Nat)∧ks[e]?=some 6)∧((Cc ks j d o).1=o∨∃e:Nat,(Cc ks j d o).1=(j+e:Nat)∧ks[e]?=some 5):=by
 induction ks with
 | nil=>intro j d o h;simp[Cc] at h
 | cons kd r ih =>
  have up:∀(j:Nat) (d o o':Int),0<=(Cc r (j+1) d o).2->(o=o'∨∃e:Nat,o=(j+e:Nat)∧(kd::r)[e]?=some 5)->(∃e:Nat,(Cc r (j+1) d o).2=(j+e:Nat)∧(kd::r)[e]?=some 6)∧((Cc r (j+1) d o).1=o'∨∃e:Nat,(Cc r (j+1) d o).1=(j+e:Nat)∧(kd::r)[e]?=some 5):=by
   intro j d o o' h ho
   obtain⟨⟨e,h1,h2⟩,h3⟩:=ih (j+1) d o h
   refine⟨⟨e+1,by omega,by simpa using h2⟩,?_⟩
   rcases h3 with h3|⟨e,h3,h4⟩
   ·rw[h3];exact ho
   ·exact Or.inr ⟨e+1,by omega,by simpa using h4⟩
  intro j d o h
  unfold Cc at h ⊢
  split at h<;>rename_i h4
  ·simp only[if_pos h4];exact up j _ o o h (Or.inl rfl)
  ·simp only[if_neg h4]
   split at h<;>rename_i h5
   ·simp only[if_pos h5]
    split at h<;>rename_i hd
    ·simp only[if_pos hd]
     split at h<;>rename_i ho
     ·simp at h
     ·simp only[if_neg ho]
      exact up j _ _ o h (Or.inr ⟨0,by simp,by simp[h5]⟩)
    ·simp only[if_neg hd];exact up j _ o o h (Or.inl rfl)
   ·simp only[if_neg h5]
    split at h<;>rename_i h6
    ·simp only[if_pos h6]
     split at h<;>rename_i hd
     ·simp only[if_pos hd]
      exact⟨⟨0,by simp,by simp[h6]⟩,by simp⟩
     ·simp only[if_neg hd];exact up j _ o o h (Or.inl rfl)
    ·simp only[if_neg h6];exact up j _ o o h (Or.inl rfl)
theorem ak6 (ks:List Int) (i:Nat) (h1:0<=(je ks i).1) (h2:0<=(je ks i).2):ks[(je ks i).1.toNat]?=some 5∧ks[(je ks i).2.toNat]?=some 6:=by
 unfold je at *
 obtain⟨⟨e,h3,h4⟩,h5⟩:=aq6 (ks.drop i) i 0 (-1) h2
 rw[List.getElem?_drop] at h4
 constructor
 ·rcases h5 with h5|⟨e,h5,h6⟩
  ·rw[h5] at h1;omega
  ·rw[h5,Int.toNat_natCast]
   rw[List.getElem?_drop] at h6
   exact h6
 ·rw[h3,Int.toNat_natCast];exact h4
theorem agz:∀(f:Nat) (body:List dh) (d:Int),body.length<f->zi f (dn body) d=true->(d<=20∨body=[])->∃t:PL,t.flat=body∧t.wf∧t.deep d:=by
 intro f
 induction f with
 | zero=>intro body d h;omega
 | succ f ihf =>
  intro body d hl h hd
  rw[zi] at h
  have main:∀(n i:Nat),i<=body.length->body.length-i<n->Iw (zi f) (dn body) d n i=true->∃t:PL,t.flat=body.drop i∧t.wf∧t.deep d:=by
   intro n
   induction n with
   | zero=>intro i _ h;omega
   | succ n ihn =>
    intro i hi hn hh
    by_cases hlt:i<body.length
    case neg =>
     exact⟨.nil,by rw[List.drop_eq_nil_of_le (by omega)];rfl,trivial,trivial⟩
    have a1f:d<=20:=by
     rcases hd with hd|hd
     ·exact hd
     ·subst hd;simp at hlt
    rw[Qv _ _ _ _ _ (by rw[Az];exact hlt),Pe body i hlt] at hh
    split at hh
    ·cases hh
    rename_i Qw
    split at hh
    ·rename_i h4
     split at hh
     ·cases hh
     rename_i hneg
     split at hh
     ·cases hh
     rename_i a5m
     split at hh
     ·cases hh
     rename_i ra
     split at hh
     ·cases hh
     rename_i rb
     have p1:0<=(je (dn body) i).1:=by omega
     have p2:0<=(je (dn body) i).2:=by omega
     have bd:=adk (dn body) i (by rw[Az];exact hlt) (by rw[Pe body i hlt];exact h4) p1 p2
     have kk:=ak6 (dn body) i p1 p2
     rw[Az] at bd
     generalize (je (dn body) i).1=oI at *
     generalize (je (dn body) i).2=eI at *
     obtain⟨o,rfl⟩:=Int.eq_ofNat_of_zero_le p1
     obtain⟨e,rfl⟩:=Int.eq_ofNat_of_zero_le p2
     simp only[Int.toNat_natCast] at *
     have hoe:i+1<=o∧o<e∧e<body.length:=by omega
     rw[Bool.not_eq_false] at ra rb
     rw[dn,←Z9] at ra rb
     obtain⟨ta,fa,wa,da⟩:=ihf (ug body (i+1) o) (d+1) (by rw[Gh _ _ _ (by omega) (by omega)];omega) ra (by
      by_cases e1:i+1<o
      ·left;omega
      ·right;apply List.eq_nil_of_length_eq_zero;rw[Gh _ _ _ (by omega) (by omega)];omega)
     obtain⟨tb,fb,wb,db⟩:=ihf (ug body (o+1) e) (d+1) (by rw[Gh _ _ _ (by omega) (by omega)];omega) rb (by
      by_cases e1:o+1<e
      ·left;omega
      ·right;apply List.eq_nil_of_length_eq_zero;rw[Gh _ _ _ (by omega) (by omega)];omega)
     obtain⟨tr,fr,wr,dr⟩:=ihn (e+1) (by omega) (by omega) hh
     have k5:body[o].kind=5:=by
      have:=kk.1
      rw[List.getElem?_eq_getElem (by rw[Az];omega),Pe body o (by omega)] at this
      simpa using this
     have k6:body[e].kind=6:=by
      have:=kk.2
      rw[List.getElem?_eq_getElem (by rw[Az];omega),Pe body e (by omega)] at this
      simpa using this
     refine⟨.br body[i] ta body[o] tb body[e] tr,?_,⟨⟨h4,k5,k6⟩,wa,wb,wr⟩,⟨a1f,da,db,dr⟩⟩
     simp only[PL.flat]
     rw[fa,fb,fr,List.drop_eq_getElem_cons hlt]
     congr 1
     have c1:body.drop (o)=body[o]::body.drop (o+1):=List.drop_eq_getElem_cons (by omega)
     have c2:body.drop (e)=body[e]::body.drop (e+1):=List.drop_eq_getElem_cons (by omega)
     have sp:∀p q:Nat,p<=q->body.drop p=ug body p q++body.drop q:=fun p q hpq=>by
      unfold ug
      have:=List.take_append_drop (q-p) (body.drop p)
      rw[List.drop_drop,show p+(q-p)=q by omega] at this
      exact this.symm
     rw[sp (i+1) o hoe.1,c1,sp (o+1) e (by omega),c2]
    ·rename_i h4
     obtain⟨tr,fr,wr,dr⟩:=ihn (i+1) (by omega) (by omega) hh
     refine⟨.leaf body[i] tr,?_,⟨⟨h4,by omega,by omega⟩,wr⟩,⟨a1f,dr⟩⟩
     simp only[PL.flat]
     rw[fr,List.drop_eq_getElem_cons hlt]
  have:=main ((dn body).length+1) 0 (Nat.zero_le _) (by rw[Az];omega) h
  simpa using this
theorem au3 (t:PL) (h:t.wf) (hd:t.deep 0):zi (t.flat.length+1) (dn t.flat) 0=true:=by
 rw[zi]
 exact au2 t t.flat.length ((dn t.flat).length+1) [] 0 h hd (Nat.le_refl _) (by rw[Az];omega)
def lg (insts known:List Int) (s:dh):Int:=known.getD (insts.getD s.at_.toNat 0).toNat 0
theorem ao2 (insts known:List Int) (s:dh) (l:List dh):costs insts known (s::l)=(s.kind,lg insts known s)::costs insts known l:=rfl
theorem aq7 (insts known:List Int) (l m:List dh):costs insts known (l++m)=costs insts known l++costs insts known m:=List.map_append
theorem Nl (insts known:List Int) (l:List dh):(costs insts known l).length=l.length:=List.length_map _
theorem au4 (insts known:List Int) (t:PL):∀(f n:Nat) (pre:List dh) (s:Int),t.wf->t.flat.length<=f->t.flat.length<n->Gi (sumF f) (costs insts known (pre++t.flat)) n pre.length s=t.cost (lg insts known) s:=by
 induction t using PL.ind with
 | nil =>
  intro f n pre s _ _ _
  have:=ai7 (sumF f) insts known pre n s
  simpa[PL.flat,PL.cost] using this
 | leaf st r ih =>
  intro f n pre s h hf hn
  obtain⟨⟨h4,h5,h6⟩,hr⟩:=h
  simp only[PL.flat,List.length_cons] at hf hn
  obtain⟨n,rfl⟩:∃m,n=m+1:=⟨n-1,by omega⟩
  rw[abo _ _ _ _ _ _ _ (by simp[PL.flat])]
  have e:(pre++(PL.leaf st r).flat)[pre.length]'(by simp[PL.flat])=st:=by simp[PL.flat]
  rw[e,if_neg h4]
  have ih':=fun s=>ih f n (pre++[st]) s hr (by omega) (by omega)
  simp only[List.append_assoc,List.singleton_append,List.length_append,List.length_singleton] at ih'
  simp only[PL.flat,PL.cost]
  split
  ·rw[ih'];rfl
  ·rw[ih']
 | br st a el b en r iha ihb ihr =>
  intro f n pre s h hf hn
  obtain⟨⟨h4,h5,h6⟩,ha,hb,hr⟩:=h
  simp only[PL.flat,List.length_cons,List.length_append] at hf hn
  obtain⟨n,rfl⟩:∃m,n=m+1:=⟨n-1,by omega⟩
  obtain⟨f,rfl⟩:∃m,f=m+1:=⟨f-1,by omega⟩
  rw[abo _ _ _ _ _ _ _ (by simp[PL.flat])]
  have e:(pre++(PL.br st a el b en r).flat)[pre.length]'(by simp[PL.flat])=st:=by simp[PL.flat]
  rw[e,if_pos h4]
  have ek:dn (pre++(PL.br st a el b en r).flat)=dn pre++4::(dn a.flat++5::(dn b.flat++6::dn r.flat)):=by
   simp[PL.flat,Gx,Ub,h4,h5,h6]
  rw[ek,Zl _ _ a b (dn r.flat) ha hb (by rw[←Az pre];exact Zg _ _)]
  simp only[Int.toNat_natCast]
  have ec:costs insts known (pre++(PL.br st a el b en r).flat)=costs insts known pre++(st.kind,lg insts known st)::(costs insts known a.flat++(el.kind,lg insts known el)::(costs insts known b.flat++(en.kind,lg insts known en)::costs insts known r.flat)):=by
   simp[PL.flat,ao2,aq7]
  rw[ec]
  rw[acp (costs insts known pre) _ (costs insts known a.flat) _ pre.length (by rw[Nl]) _ (by rw[Nl])]
  have e2:ug (costs insts known pre++(st.kind,lg insts known st)::(costs insts known a.flat++(el.kind,lg insts known el)::(costs insts known b.flat++(en.kind,lg insts known en)::costs insts known r.flat))) (pre.length+1+a.flat.length+1) (pre.length+1+a.flat.length+1+b.flat.length)=costs insts known b.flat:=by
   have:=acp (costs insts known pre++(st.kind,lg insts known st)::costs insts known a.flat) (el.kind,lg insts known el) (costs insts known b.flat) ((en.kind,lg insts known en)::costs insts known r.flat) (pre.length+1+a.flat.length) (by simp[Nl];omega) (pre.length+1+a.flat.length+1+b.flat.length) (by rw[Nl])
   simpa using this
  rw[e2,←ec]
  have ra:sumF (f+1) (costs insts known a.flat)=a.cost (lg insts known) 0:=by
   rw[sumF]
   exact iha f ((costs insts known a.flat).length+1) [] 0 ha (by omega) (by rw[Nl];omega)
  have rb:sumF (f+1) (costs insts known b.flat)=b.cost (lg insts known) 0:=by
   rw[sumF]
   exact ihb f ((costs insts known b.flat).length+1) [] 0 hb (by omega) (by rw[Nl];omega)
  rw[ra,rb]
  have:=ihr (f+1) n (pre++st::(a.flat++el::(b.flat++[en]))) (Dn (s+(1+maxS (a.cost (lg insts known) 0) (b.cost (lg insts known) 0)))) hr (by omega) (by omega)
  have el':(pre++st::(a.flat++el::(b.flat++[en]))).length=pre.length+1+a.flat.length+1+b.flat.length+1:=by simp;omega
  rw[el'] at this
  simp only[PL.cost]
  rw[←this]
  simp[PL.flat]
theorem au5 (insts known:List Int) (t:PL) (h:t.wf):sumF (t.flat.length+1) (costs insts known t.flat)=t.cost (lg insts known) 0:=by
 rw[sumF]
 exact au4 insts known t t.flat.length ((costs insts known t.flat).length+1) [] 0 h (Nat.le_refl _) (by rw[Nl];omega)
theorem au6 (t:PL):∀H:List ByteArray,t.wf->(t.free H↔(∀x,x∈H->∀u,u∈t.flat->Oc u x=false)∧t.O1):=by
 induction t using PL.ind with
 | nil=>intro H _;simp[PL.free,PL.flat,PL.O1]
 | leaf s r ih =>
  intro H h
  simp only[PL.free,PL.flat,PL.O1,ih H h.2,List.mem_cons]
  constructor
  ·rintro⟨h1,h2,h3⟩
   refine⟨fun x hx u hu=>?_,h3⟩
   rcases hu with rfl|hu
   ·exact h1 x hx
   ·exact h2 x hx u hu
  ·rintro⟨h1,h3⟩
   exact⟨fun x hx=>h1 x hx s (Or.inl rfl),fun x hx u hu=>h1 x hx u (Or.inr hu),h3⟩
 | br s a el b en r iha ihb ihr =>
  intro H h
  obtain⟨⟨h4,h5,h6⟩,ha,hb,hr⟩:=h
  have wk:∀(u:dh) (x:ByteArray),u.kind≠1->u.kind≠3->Oc u x=false:=fun u x k1 k3=>by
   simp[Oc,k1,k3]
  simp only[PL.free,PL.flat,PL.O1,iha _ ha,ihb _ hb,ihr _ hr,List.mem_cons,List.mem_append]
  constructor
  ·rintro⟨⟨a1,a2⟩,⟨b1,b2⟩,r1,r2⟩
   refine⟨fun x hx u hu=>?_,⟨fun u hu=>a1 _ (Or.inl rfl) u hu,fun u hu=>b1 _ (Or.inl rfl) u hu⟩,a2,b2,r2⟩
   rcases hu with rfl|hu|rfl|hu|rfl|hu
   ·exact wk _ _ (by omega) (by omega)
   ·exact a1 x (Or.inr hx) u hu
   ·exact wk _ _ (by omega) (by omega)
   ·exact b1 x (Or.inr hx) u hu
   ·exact wk _ _ (by omega) (by omega)
   ·exact r1 x hx u hu
  ·rintro⟨h1,⟨a1,b1⟩,a2,b2,r2⟩
   refine⟨⟨fun x hx u hu=>?_,a2⟩,⟨fun x hx u hu=>?_,b2⟩,fun x hx u hu=>h1 x hx u (Or.inr (Or.inr (Or.inr (Or.inr (Or.inr hu))))),r2⟩
   ·rcases hx with rfl|hx
    ·exact a1 u hu
    ·exact h1 x hx u (Or.inr (Or.inl hu))
   ·rcases hx with rfl|hx
    ·exact b1 u hu
    ·exact h1 x hx u (Or.inr (Or.inr (Or.inr (Or.inl hu))))
theorem aam (body:List dh) (i:Nat) (s:dh) (h:body[i]?=some s) (h4:s.kind≠4):Jz body i=false:=by
 unfold Jz
 rw[h]
 simp[h4]
theorem au7 (body:List dh) (i:Nat) (s el en:dh) (a b:PL) (post:List dh) (h:body.drop i=s::(a.flat++el::(b.flat++en::post))) (h4:s.kind=4) (h5:el.kind=5) (h6:en.kind=6) (ha:a.wf) (hb:b.wf) :
  (Jz body i=false↔(∀u,u∈a.flat->Oc u s.name=false)∧∀u,u∈b.flat->Oc u s.name=false):=by
 have wk:∀(u:dh) (x:ByteArray),u.kind≠1->u.kind≠3->Oc u x=false:=fun u x k1 k3=>by
  simp[Oc,k1,k3]
 have hs:body[i]?=some s:=by
  have:(body.drop i)[0]?=some s:=by rw[h];rfl
  simpa using this
 have hp:je (dn body) i=(((i+1+a.flat.length:Nat):Int),((i+1+a.flat.length+1+b.flat.length:Nat):Int)):=by
  refine Zl _ _ a b (dn post) ha hb ?_
  unfold dn
  rw[←List.map_drop,h]
  simp[h4,h5,h6]
 have hel:∀j,body[i+j]?=(s::(a.flat++el::(b.flat++en::post)))[j]?:=fun j=>by
  rw[←h,List.getElem?_drop]
 unfold Jz
 rw[hs,hp]
 simp only[h4,Int.toNat_natCast]
 rw[show ((4:Int) == 4)=true from rfl,Bool.true_and,List.any_eq_false]
 constructor
 ·intro hh
  refine⟨fun u hu=>?_,fun u hu=>?_⟩
  ·obtain⟨q,hq,rfl⟩:=List.getElem_of_mem hu
   have h1:=hh (i+(q+1)) (List.mem_range.2 (by omega))
   rw[hel (q+1),List.getElem?_cons_succ,List.getElem?_append_left hq,List.getElem?_eq_getElem hq] at h1
   simpa using h1
  ·obtain⟨q,hq,rfl⟩:=List.getElem_of_mem hu
   have h1:=hh (i+(a.flat.length+1+q+1)) (List.mem_range.2 (by omega))
   rw[hel (a.flat.length+1+q+1),List.getElem?_cons_succ,List.getElem?_append_right (by omega),show a.flat.length+1+q-a.flat.length=q+1 by omega,List.getElem?_cons_succ,List.getElem?_append_left hq,List.getElem?_eq_getElem hq] at h1
   have h2:decide (i<=i+(a.flat.length+1+q+1))=true:=decide_eq_true (by omega)
   rw[h2] at h1
   simpa using h1
 ·rintro⟨h1,h2⟩ j hj
  rw[List.mem_range] at hj
  by_cases hij:i<=j
  case neg=>simp[hij]
  obtain⟨q,rfl⟩:∃q,j=i+q:=⟨j-i,by omega⟩
  rw[hel q]
  have hd:decide (i<=i+q)=true:=decide_eq_true (by omega)
  rw[hd,Bool.true_and]
  rcases q with _|q
  ·simp only[List.getElem?_cons_zero]
   rw[wk s _ (by omega) (by omega)]
   decide
  ·rw[List.getElem?_cons_succ]
   by_cases hq:q<a.flat.length
   ·rw[List.getElem?_append_left hq,List.getElem?_eq_getElem hq]
    simp[h1 _ (List.getElem_mem hq)]
   ·rw[List.getElem?_append_right (by omega)]
    rcases hr:q-a.flat.length with _|p
    ·rw[List.getElem?_cons_zero]
     simp[wk el _ (by omega) (by omega)]
    ·rw[List.getElem?_cons_succ,List.getElem?_append_left (by omega),List.getElem?_eq_getElem (by omega)]
     simp[h2 _ (List.getElem_mem _)]
theorem axk (t:PL):∀(pre post:List dh),t.wf->((∀i,pre.length<=i->i<pre.length+t.flat.length->Jz (pre++t.flat++post) i=false)↔t.O1):=by
 induction t using PL.ind with
 | nil=>intro pre post _;simp only[PL.O1,PL.flat,iff_true];intro i h1 h2;simp at h2;omega
 | leaf s r ih =>
  intro pre post h
  have ih':=ih (pre++[s]) post h.2
  simp only[List.append_assoc,List.singleton_append,List.length_append,List.length_singleton] at ih'
  simp only[PL.flat,PL.O1,List.length_cons,List.append_assoc,List.cons_append]
  rw[←ih']
  constructor
  ·intro hh i h1 h2
   exact hh i (by omega) (by omega)
  ·intro hh i h1 h2
   by_cases e:i=pre.length
   ·subst e
    exact aam _ _ s (by simp) h.1.1
   ·exact hh i (by omega) (by omega)
 | br s a el b en r iha ihb ihr =>
  intro pre post h
  obtain⟨⟨h4,h5,h6⟩,ha,hb,hr⟩:=h
  have a1g:=iha (pre++[s]) (el::(b.flat++en::(r.flat++post))) ha
  have a1h:=ihb (pre++s::(a.flat++[el])) (en::(r.flat++post)) hb
  have a1i:=ihr (pre++s::(a.flat++el::(b.flat++[en]))) post hr
  simp only[List.append_assoc,List.singleton_append,List.cons_append,List.length_append,List.length_singleton,List.length_cons,List.length_nil] at a1g a1h a1i
  simp only[PL.flat,PL.O1,List.length_cons,List.length_append,List.append_assoc,List.cons_append]
  have hbr:=au7 (pre++s::(a.flat++el::(b.flat++en::(r.flat++post)))) pre.length s el en a b (r.flat++post) List.drop_left h4 h5 h6 ha hb
  rw[←a1g,←a1h,←a1i,←hbr]
  constructor
  ·intro hh
   exact⟨hh _ (Nat.le_refl _) (by omega),fun i h1 h2=>hh i (by omega) (by omega),fun i h1 h2=>hh i (by omega) (by omega),fun i h1 h2=>hh i (by omega) (by omega)⟩
  ·rintro⟨g0,g1,g2,g3⟩ i h1 h2
   by_cases e0:i=pre.length
   ·subst e0;exact g0
   by_cases e1:i<pre.length+1+a.flat.length
   ·exact g1 i (by omega) (by omega)
   by_cases e2:i=pre.length+1+a.flat.length
   ·refine aam _ _ el ?_ (by omega)
    rw[List.getElem?_append_right (by omega),show i-pre.length=a.flat.length+1 by omega,List.getElem?_cons_succ,List.getElem?_append_right (by omega),Nat.sub_self]
    rfl
   by_cases e3:i<pre.length+1+a.flat.length+1+b.flat.length
   ·exact g2 i (by omega) (by omega)
   by_cases e4:i=pre.length+1+a.flat.length+1+b.flat.length
   ·refine aam _ _ en ?_ (by omega)
    rw[List.getElem?_append_right (by omega),show i-pre.length=(a.flat.length+1+b.flat.length)+1 by omega,List.getElem?_cons_succ,List.getElem?_append_right (by omega),show a.flat.length+1+b.flat.length-a.flat.length=b.flat.length+1 by omega,List.getElem?_cons_succ,List.getElem?_append_right (by omega),Nat.sub_self]
    rfl
   ·exact g3 i (by omega) (by omega)
theorem ag0 (t:PL) (h:t.wf):((List.range t.flat.length).all (fun j=>!Jz t.flat j)=true↔t.free []):=by
 rw[au6 t [] h,List.all_eq_true]
 have:=axk t [] [] h
 simp only[List.nil_append,List.append_nil,List.length_nil,Nat.zero_add,Nat.zero_le,true_implies] at this
 simp only[List.not_mem_nil,false_implies,implies_true,true_and]
 rw[←this]
 constructor
 ·intro hh i hi
  have:=hh i (List.mem_range.2 hi)
  simpa using this
 ·intro hh i hi
  simp[hh i (List.mem_range.1 hi)]
end Go.Proofs.YtlcgnbcgmljpaaaGreat
