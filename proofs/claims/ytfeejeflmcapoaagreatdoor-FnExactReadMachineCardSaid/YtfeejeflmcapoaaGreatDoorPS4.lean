import Derived.Test.YtfeejeflmcapoaaGreatDoorPS3
import Derived.Test.YtfeejeflmcapoaaGreatDoorRG1
import Derived.Deep.RegionLaw
import Derived.Lib.AppendStr
import Derived.Laws.BytesString
set_option linter.unusedSimpArgs false
set_option linter.unusedVariables false
set_option maxHeartbeats 16000000
set_option maxRecDepth 20000
namespace Go.Proofs.YtfeejeflmcapoaaGreatDoor
open Go.RowKit
theorem ab3 {P:Program} {α:Type} (E:Fj P α) (w:cu) {ops:Array Oper} {o:Oper} {a:Act} {K:Act->cu->Prop} {Q:Exit->Act->cu->Prop} {Er:Prop} (hgd:o.guard=none) (s x:Operand)
  (ho:o.op=.call { callee:=.builtin .append,args:=#[s,x],argTypes:=#[E.ST,E.ST] })
  (base:Nat) (v:Value) (xs:List α) (hs:a.eval s=v) (hown:jq E w base v xs)
  (eb:Nat) (y:α) (hx:a.eval x=.slice (some ⟨eb,0,none⟩) 1 1) (hy:∀j u,(E.f y)[j]?=some u->w.cell? ⟨eb,j,none⟩=some u) (hb:(xs.length+1)*E.uf<=140737488355328) (hbase:base<=w.heap.size)
  (h:∀v' w',jq E w' base v' (xs++[y])->w.grownBy w' v.ownBlock->K (a.put o.dst v') w') :
  if Region.wanted o (yielded ops a.tmps)=true then Oper.wp P o a w K Q else Er:=by
 have hwant:Region.wanted o (yielded ops a.tmps)=true:=by simp[Region.wanted,hgd]
 rw[gy hwant];obtain⟨i,hi,hz0,hz1,hz2⟩:=info_parts E.hi;have hlen:xs.length+1<=140737488355328:=ku (Xa _ E.hby) hb;refine wp_append_own w s x E.ST ho base E.T i _ E.sz E.uf E.hT hi hz0 hz1 hz2 E.hz E.hsz v xs.length (xs.flatMap E.f) hs hown _ 1 1 (E.f y) hx (by rw[E.hf];omega) (fun j u hu=>?_) (E.h1 y) (by simp[maxLen];omega) hb hbase ?_
 ·rw[Addr.add_lit,Ba]
  exact hy j u hu
 ·intro v' w' h1 h2 h3
  refine h v' w' ?_ h2;unfold jq;rw[jh,List.flatMap_append];simpa using h1
theorem ae8 {P:Program} {α:Type} {E:Fj P α} {w:cu} {b1 g:Nat} {v:Value} {xs:List α} {T:TypeId} {cs:Array Value} (h1:jq E w b1 v xs) (h2:jd w g T cs) (ht:E.T≠T):v.ownBlock≠some g:=fun e=>by
 rcases h1.2 with ⟨rfl,_⟩|⟨g',cap,cur,rfl,_,hg,_⟩
 ·cases e
 ·simp only[Value.ownBlock,uw] at e
  subst e;unfold jd at h2;rw[hg] at h2;simp only[uw,Obj.cells.injEq] at h2;exact ht h2.2.1
structure LI (base c:Nat) (cells:Array Value) (W0 wr:cu) (st:Value) (ls:List dh):Prop where
 own:jq ny wr base st ls
 blk:jd wr c 50 cells
 old:Below base W0 wr
 size:base<=wr.heap.size
theorem LI.on {base c:Nat} {cells:Array Value} {W0 wr w1:cu} {st:Value} {ls:List dh} (h:LI base c cells W0 wr st ls) (hb:Below wr.heap.size wr w1):LI base c cells W0 w1 st ls :=
 ⟨h.own.below hb,h.blk.below hb h.blk.lt,h.old.trans (hb.mono h.size),ku h.size hb.size⟩
theorem LI.app {base c:Nat} {cells:Array Value} {W0 wr w2:cu} {st st2:Value} {ls:List dh} {l:dh} (h:LI base c cells W0 wr st ls) (ho:jq ny w2 base st2 (ls++[l])) (hg:wr.grownBy w2 st.ownBlock):LI base c cells W0 w2 st2 (ls++[l]) :=
 ⟨ho,(hg.block c h.blk.lt (fun e=>ae8 h.own h.blk (by decide) e.symm)).trans h.blk,h.own.grown h.old hg h.size (gu _),ku h.size hg.size⟩
structure aso (ks:List dw):Prop where
 cls:∀k,k∈ks->asv ks k
 ln:∀k,k∈ks->∀s,s∈k.body->anq s
 nm:∀k,k∈ks->k.name.size<=1048576/\(∀s,s∈k.ins->s.name.size<=1048576)/\(∀s,s∈k.au->s.name.size<=1048576)/\∀x,x∈k.iw->x.size<=1048576
 len:∀k,k∈ks->k.ins.length<=1048576/\k.au.length<=1048576/\k.iw.length<=1048576/\k.body.length<=1048576
 all:wo (G8 ks)<=200000000
theorem a9l:(⟨#[105,110,32]⟩:dh)=Ic++Lsp:=by decide
theorem a5f:(⟨#[111,117,116,32]⟩:dh)=Dz++Lsp:=by decide
theorem a5g:(⟨#[99,108,97,115,115,32]⟩:dh)=vw++Lsp:=by decide
theorem a5h:(⟨#[108,111,99,32]⟩:dh)=Ee++Lsp:=by decide
theorem a5i:(⟨#[109,101,109,32]⟩:dh)=Ef++Lsp:=by decide
theorem a5j:(⟨#[117,115,101,32]⟩:dh)=Eh++Lsp:=by decide
def prior (ks:List dw) (i:Nat):List dh:=(ks.take i).flatMap (Hu ks)
theorem ajf (ks:List dw) (i:Nat) (h:i<ks.length):prior ks (i+1)=prior ks i++Hu ks ks[i]:=by
 unfold prior;rw[Eu h,List.flatMap_append];simp
theorem aw9 (ks:List dw) (i:Nat):(prior ks i).length<=wo (G8 ks):=by
 have h:=abm (prior ks i)
 have h2:wo (G8 ks)=wo (prior ks i)+wo ((ks.drop i).flatMap (Hu ks)):=by
  rw[←Ez];unfold prior G8;rw[←List.flatMap_append,O8]
 omega
theorem map_take {α:Type} (f:α->dh) (A:List dh) (xs:List α) (q:Nat) (h:q<xs.length):A++(xs.take (q+1)).map f=(A++(xs.take q).map f)++[f xs[q]]:=by
 rw[Eu h,Ig,Gl];rfl
theorem abn {α:Type} (f:α->dh) (A:List dh) (xs:List α) (q:Nat) (h:q<=xs.length):(A++(xs.take q).map f).length=A.length+q:=by
 rw[jh,zy,Nk];omega
theorem ao6 {P:Program} {α:Type} {E:Fj P α} {w w':cu} {base:Nat} {v:Value} {xs:List α} {row:Option Nat} (h:jq E w base v xs) (hg:w.grownBy w' row) (hne:∀b,v.ownBlock=some b->row≠some b):jq E w' base v xs:=by
 obtain⟨h1,h2⟩:=h;refine⟨h1,?_⟩;rcases h2 with h2|⟨g,cap,cur,rfl,hb,hh,r⟩
 ·exact Or.inl h2
 ·exact Or.inr ⟨g,cap,cur,rfl,hb,(hg.block g (Kv.1 hh).1 (fun e=>hne g rfl e.symm)).trans hh,r⟩
theorem ari {P:Program} {α:Type} {E:Fj P α} {w:cu} {b1 b2:Nat} {v u:Value} {xs:List α} {T:TypeId} {sz n:Nat} {ys:List Value} (h1:jq E w b1 v xs) (h2:w.ownsRow b2 T sz u n ys) (ht:E.T≠T):∀b,v.ownBlock=some b->u.ownBlock≠some b:=fun b e1 e2=>by
 rcases h1.2 with ⟨rfl,_⟩|⟨g,cap,cur,rfl,_,hg,_⟩
 ·cases e1
 ·rcases h2.2 with ⟨rfl,_⟩|⟨g',cap',cur',rfl,_,hg',_⟩
  ·cases e2
  ·simp only[Value.ownBlock,uw] at e1 e2
   subst e1;subst e2;rw[hg] at hg';simp only[uw,Obj.cells.injEq] at hg';exact ht hg'.2.1
theorem akx (ls:List dh):∀x,x∈ls->x.size<=wo ls:=by
 intro x hx
 induction ls with
 | nil=>cases hx
 | cons y ls ih =>
  rw[G9];rcases qj.1 hx with rfl|hx
  ·omega
  ·have:=ih hx
   omega
theorem ao7 (ls:List dh) (q:Nat) (h:q<ls.length):F6 (ls.take (q+1))=F6 (ls.take q)++(ls[q]++Wnl):=by
 rw[Eu h,akf,ara]
theorem a5k (ls:List dh) (q:Nat) (h:q<ls.length):(F6 (ls.take q)).size+ls[q].size+1<=wo ls:=by
 have h1:wo ls=wo (ls.take (q+1))+wo (ls.drop (q+1)):=by rw[←Ez,O8]
 have h2:=ah2 (ls.take (q+1));rw[ao7 ls q h,Kz,Kz] at h2;have:Wnl.size=1:=rfl;omega
theorem axa:(Tryz.prog.info? 5).map (fun i=>(i.zero,i.size,i.bytes))=some (some (.int .u8 0),1,1):=by kernel_rfl
theorem own_base {w:cu} {base n sz:Nat} {T:TypeId} {v:Value} {xs:List Value} (h:w.ownsRow base T sz v n xs):∀k,v.ownBlock=some k->base<=k:=fun k e=>by
 rcases h.2 with ⟨rfl,_⟩|⟨g,cap,cur,rfl,hb,_⟩
 ·cases e
 ·cases e
  exact hb
theorem axb {w w':cu} {base n sz:Nat} {T:TypeId} {v:Value} {xs:List Value} (h:w.ownsRow base T sz v n xs) (hb:Below w.heap.size w w'):w'.ownsRow base T sz v n xs:=by
 refine⟨h.1,?_⟩;rcases h.2 with h2|⟨g,cap,cur,rfl,hbb,hh,r⟩
 ·exact Or.inl h2
 ·exact Or.inr ⟨g,cap,cur,rfl,hbb,(hb.block g (Kv.1 hh).1).trans hh,r⟩
theorem Xu (s t:dh):Lib.strCells (s++t)=Lib.strCells s++Lib.strCells t:=by
 simp[Lib.strCells,ByteArray.data_append]
theorem a09 (l:List UInt8) (s:dh):(l.map (fun b=>((b.toNat:Nat):Int))).foldl (fun r n=>r.push (UInt8.ofNat n.toNat)) s=s++⟨l.toArray⟩:=by
 induction l generalizing s with
 | nil =>
  apply ByteArray.ext;simp[ByteArray.data_append]
 | cons b l ih =>
  rw[Ai,List.foldl_cons,ih];apply ByteArray.ext;simp[ByteArray.data_append]
theorem a1a (w:cu) (base n:Nat) (v:Value) (s:dh) (h:w.ownsRow base 5 1 v n (Lib.strCells s)):(convert 64 9 v).run Tryz.prog w=.ok (.string s) w:=by
 have hl:=h.1;rw[Lib.strCells_length,jr] at hl;rcases h.2 with ⟨rfl,hn⟩|⟨g,cap,cur,rfl,_,hg,_⟩
 ·rw[run_convert_bytes_string _ _ _ _ _ _ _ Tryz.underlying64 Tryz.underlying5 Tryz.underlying9]
  have hs:s=ByteArray.empty:=by
   apply ByteArray.ext;apply Array.eq_empty_of_size_eq_zero;show s.size=0;omega
  subst hs;rfl
 ·rw[run_convert_bytes_string _ _ _ _ _ _ _ Tryz.underlying64 Tryz.underlying5 Tryz.underlying9]
  have hcs:Lib.strCells s=(s.data.toList.map (fun b=>((b.toNat:Nat):Int))).map (Value.int .u8):=by
   unfold Lib.strCells;rw[List.map_map];rfl
  have hld:=run_loadCells_list (P:=Tryz.prog) (w:=w) ⟨g,0,none⟩ (Lib.strCells s) (fun j u hu=>h.cells (g:=g) rfl j u hu);rw[Lib.strCells_length,hl,hcs] at hld;rw[run_bytesToString w ⟨g,0,none⟩ n cap _ hld,a09];congr 2
theorem ant (ks:List dw) (v:Value) (w:cu) (hv:jc 7 160 C9 0 w v ks) (mb:Bool) (hmk:∀v w,jc 7 160 C9 0 w v ks->Calls Tryz.prog 23 #[.agg #[v]] w (Ans (.bool mb) w)) (hp:mb=true->ks≠[]/\aso ks) :
  Calls Tryz.prog 10 #[.agg #[v]] w (Ans (.string (if mb=true then F6 (G8 ks) else ByteArray.empty)) w):=by
 obtain⟨a0,c0,rfl⟩:=hv.shape;have hA0:Below w.heap.size w (w.alloc (.cells #[.slice a0 ks.length c0] 24)):=(iq _ _).alloc (gu _) _;have HC:=ak (hmk _ _ (hv.stays D9 hA0));have HA0:=ak hA0;clear hmk hA0
 cases mb
 ·rw[bf (by simp)]
  go_enter Tryz.func10,Tryz.ntmps10;go_wp2_with fail;refine(uh HC).mono ?_;rintro e w1 ⟨rfl,hb1⟩;have HB:=ak ((uh HA0).trans (hb1.mono (uh HA0).size));clear hb1;go_wp2;go_ret;exact⟨rfl,uh HB⟩
 rw[gy rfl];obtain⟨hne,hpr⟩:=hp rfl;have HPR:=ak hpr
 have hlm:ks.length<=140737488355328:=by
  obtain⟨_,_,_,_,h,_⟩:=hv;exact h
 have HV:=ak hv;obtain⟨_,_,Dq,_,_,hx⟩:=hv;simp only[qw] at Dq;obtain⟨rfl,_,rfl⟩:=Dq;obtain⟨b0,o0,_,rfl,bbz⟩:=hx 0 (E5.2 hne);clear bbz;have HX:=ak hx;have asq:=ak hpr.all;have Fa:=ak (aw9 ks);have Hz:Hid (∀w1,Below (w.heap.size+1) (w.alloc (.cells #[.slice (some ⟨b0,o0,none⟩) ks.length c0] 24)) w1->Below w.heap.size w w1):=fun w1 h=>(uh HA0).trans (h.mono (Nat.le_succ _))
 generalize hTX:F6 (G8 ks)=TX at *;have bdj:=ak hTX;clear hp hpr hne hx hTX;go_enter Tryz.func10,Tryz.ntmps10;go_wp2_with fail;refine(uh HC).mono ?_;rintro e w1 ⟨rfl,hb1⟩;have hbx:=aje hb1;have HB1:=ak hbx;have hz1:w.heap.size+1<=w1.heap.size:=by have:=hbx.size;simpa using this
 have HB2:=ak (hbx.alloc hz1 (.cells #[] 9));have Oh:=ak (jq.start (E:=ny) w1 (w.heap.size+1) hz1);have k1:w1.cell? ⟨w.heap.size,0,none⟩=some (.slice (some ⟨b0,o0,none⟩) ks.length c0):=(Bz (B:=0) hbx 0).trans rfl;have hz1':w.heap.size<w1.heap.size:=hz1;clear hb1 hbx;go_wp2
 go_loopg [3,28] ks.length (fun gh st ix wr=>∃(i:Nat),i<=ks.length/\gh=ks.length-i/\ix=.int .i64 i/\Hid (jq ny wr (w.heap.size+1) st (prior ks i))/\Hid (Below (w.heap.size+1) (w.alloc (.cells #[.slice (some ⟨b0,o0,none⟩) ks.length c0] 24)) wr))
 case atStart=>exact⟨0,jg _,by omega,rfl,Oh,HB2⟩
 case round =>
  obtain⟨i,hi,hg,rfl,HOW,Bc⟩:=hrel;have HG0:=ak hg;clear hg k1;have hws:w.heap.size+1<=wr.heap.size:=by have:=(uh Bc).size;simpa using this
  by_cases hlt0:i<ks.length
  ·obtain⟨b,o,cs,Fe,_,hb,hcs,hc,hR⟩:=uh HX i hlt0
   simp only[uw,Addr.mk.injEq] at Fe;obtain⟨rfl,rfl,_⟩:=Fe;have hbw:=uh Hz _ (uh Bc);have hc:∀j (hj:j<cs.length),wr.cell? ⟨b0,o0+i*7+j,none⟩=some cs[j]:=fun j hj=>by rw[hbw.cell (p:=⟨b0,_,none⟩) hb];exact hc j hj
   have hkm:=o7 hlt0;have hcl:=(uh HPR).cls _ hkm;have hln:=(uh HPR).ln _ hkm;have hnm:=(uh HPR).nm _ hkm;have hlen:=(uh HPR).len _ hkm;have Oc:=ak (ajf ks i hlt0);have hpl:=uh Fa i;have hall:=uh asq;have hz0:Hu ks ks[i]=Hu ks ks[i]:=rfl;obtain⟨kd,hkd⟩:=o8 (ks[i]);rw[←hkd] at hR hcl hln hnm hlen Oc;clear hkm hkd hz0;obtain⟨nm,ins,au,iw,gq,ay,body⟩:=kd;obtain⟨f1,f2,f3,f4,f5,f6,rfl,hnl,q1,q2,q3,q4,q5,q6⟩:=hR;simp only at hnl q1 q2 q3 q4 q5 q6;obtain⟨b1,c1,rfl⟩:=q1.shape;obtain⟨b2,c2,rfl⟩:=q2.shape;obtain⟨b3,c3,rfl⟩:=q3.shape;obtain⟨b4,c4,rfl⟩:=q4.shape;obtain⟨b5,c5,rfl⟩:=q5.shape;obtain⟨b6,c6,rfl⟩:=q6.shape;have Ub:=ak q1;have HS2:=ak q2;have Vj:=ak q3;have Q8:=ak q4;have HS5:=ak q5;have HS6:=ak q6;have a0q:=ak hnm.2.1;have a0r:=ak hnm.2.2.1;have a0s:=ak hnm.2.2.2;have Qb:=ak hcl;have a0t:=ak hln;obtain⟨cb,hcb⟩:=o8 wr.heap.size;have hnz:=hnm.1;have hfew:=hcl.few;simp only at hnz hlen hfew;have y0:=hc 0 (by simp);have y1:=hc 1 (by simp);have y2:=hc 2 (by simp);have y3:=hc 3 (by simp);have y4:=hc 4 (by simp);have y5:=hc 5 (by simp);have y6:=hc 6 (by simp);simp only[jr,ji,og,ou] at y0 y1 y2 y3 y4 y5 y6;have beo:(i:Int)<(ks.length:Int):=by omega
   clear q1 q2 q3 q4 q5 q6 hc hcs hln hcl hnl hbw;generalize prior ks i=A0 at *
   have HL0:Hid (LI (w.heap.size+1) cb #[.string nm,.slice b1 ins.length c1,.slice b2 au.length c2,.slice b3 iw.length c3,.slice b4 gq.length c4,.slice b5 ay.length c5,.slice b6 body.length c6] (w.alloc (.cells #[.slice (some ⟨b0,o0,none⟩) ks.length c0] 24)) ((wr.alloc (.cells #[.string nm,.slice b1 ins.length c1,.slice b2 au.length c2,.slice b3 iw.length c3,.slice b4 gq.length c4,.slice b5 ay.length c5,.slice b6 body.length c6] 50)).alloc (.cells #[.string (⟨#[99,108,97,115,115,32]⟩++nm)] 9)) u3 (A0)):=by
    have hb8:=((iq wr.heap.size wr).alloc (gu _) (.cells #[.string nm,.slice b1 ins.length c1,.slice b2 au.length c2,.slice b3 iw.length c3,.slice b4 gq.length c4,.slice b5 ay.length c5,.slice b6 body.length c6] 50)).alloc (by simp) (.cells #[.string (⟨#[99,108,97,115,115,32]⟩++nm)] 9);refine ak ⟨(uh HOW).below hb8,?_,(uh Bc).trans (hb8.mono hws),ku hws hb8.size⟩;rw[hcb];exact(oh wr #[.string nm,.slice b1 ins.length c1,.slice b2 au.length c2,.slice b3 iw.length c3,.slice b4 gq.length c4,.slice b5 ay.length c5,.slice b6 body.length c6] 50).below ((iq (wr.heap.size+1) _).alloc (by simp) _) (Sl _)
   have Ho:Hid (A0.length<=300000000):=by
    refine ak ?_;omega
   go_wp2_with (at_builtin;go_must (refine Am ny _ rfl _ _ rfl (w.heap.size+1) _ _ rfl (uh HL0).own (wr.heap.size+1) (⟨#[99,108,97,115,115,32]⟩++nm) rfl (fun j u hu=>by rw[zu _ _ _ _ (by simp)];simpa[ny] using hu) (by have h9:=uh Ho;show (_+1)*16<=_;omega) (uh HL0).size ?_));intro v2 w2 hown2 Kt;have HLa:=ak ((uh HL0).app hown2 Kt);clear hown2 Kt y0 y1 y2 y3 y4 y5 y6;obtain⟨A1,hA1⟩:=o8 (A0++[⟨#[99,108,97,115,115,32]⟩++nm])
   have HN1:Hid (A1.length+ins.length<=300000000):=by
    refine ak ?_;rw[hA1,jh,N9];omega
   rw[←hA1] at HLa;have HA1:=ak hA1;have HLn:=HLa;have k1:w2.cell? ⟨cb,1,none⟩=some (.slice b1 ins.length c1):=(uh HLn).blk.cell (v:=.slice b1 ins.length c1) rfl;have hzc:cb<w2.heap.size:=(uh HLn).blk.lt;rw[←hcb]
   have Uk:Hid (A1.length+ins.length+au.length+iw.length+gq.length+ay.length+body.length<=300000000):=by
    refine ak ?_;rw[hA1,jh,N9];omega
   clear hA1 Ho hcb HOW Bc hpl hall hnm;go_wp2
   go_loopg [3,41] ins.length (fun gh st ix wr=>∃(q:Nat),q<=ins.length/\gh=ins.length-q/\ix=.int .i64 q/\Hid (LI (w.heap.size+1) cb #[.string nm,.slice b1 ins.length c1,.slice b2 au.length c2,.slice b3 iw.length c3,.slice b4 gq.length c4,.slice b5 ay.length c5,.slice b6 body.length c6] (w.alloc (.cells #[.slice (some ⟨b0,o0,none⟩) ks.length c0] 24)) wr st (A1++(ins.take q).map (fun s:jw=>oq [Ic,s.name,Bf s.type]))))
   case atStart=>exact⟨0,jg _,by omega,rfl,(by rw[Nj,Fv,Aq];exact HLn)⟩
   case round =>
    obtain⟨q,hq,hg,rfl,HL⟩:=hrel;have HG:=ak hg;clear hg
    by_cases hlt:q<ins.length
    ·have hbw:=uh Hz _ (uh HL).old
     obtain⟨_,_,Dq,_,_,hex⟩:=uh Ub;simp only[qw] at Dq;obtain⟨rfl,_,rfl⟩:=Dq;obtain⟨b,o,cs,rfl,_,hb,hcs,hc,hR⟩:=hex q hlt;have hc:∀j (hj:j<cs.length),wr.cell? ⟨b,o+q*2+j,none⟩=some cs[j]:=fun j hj=>by rw[hbw.cell (p:=⟨b,_,none⟩) hb];exact hc j hj
     obtain⟨rfl,hsn,hty⟩:=hR;have z0:=hc 0 (by simp);have z1:=hc 1 (by simp);simp only[jr,ji,og,ou] at z0 z1;have Kq:(q:Int)<(ins.length:Int):=by omega
     have HT:=ak (map_take (fun s:jw=>oq [Ic,s.name,Bf s.type]) (A1) ins q hlt)
     have Ho:Hid ((A1++(ins.take q).map (fun s:jw=>oq [Ic,s.name,Bf s.type])).length<=300000000):=by
      refine ak ?_;rw[abn _ _ _ _ (by omega)];have:=uh HN1;omega
     have hmem:=o7 hlt;clear hc hcs hex;generalize A1++(ins.take q).map (fun s:jw=>oq [Ic,s.name,Bf s.type])=pre at HL HT Ho;have HNS:=ak (uh a0q _ hmem)
     have HTX:Hid (oq [Ic,ins[q].name,Bf ins[q].type]=⟨#[105,110,32]⟩++ins[q].name++⟨#[32]⟩++Bf ins[q].type):=by
      refine ak ?_;rw[am5,a9l];simp only[Bv];rfl
     have hzt:=ad1 ins[q].type;have HTY:=ak (al9 ins[q].type);rw[uh HTX] at HT;generalize Bf ins[q].type=tx at *;generalize ins[q]=sl at *;obtain⟨sn,sty⟩:=sl;simp only at *;have ae2:=uh HNS;have q1:¬(9223372036854775807<3+sn.size):=by omega
     have q2:¬(9223372036854775807<3+sn.size+1):=by omega
     have q3:¬(9223372036854775807<3+sn.size+1+tx.size):=by omega
     have Ov:Below wr.heap.size wr ((wr.alloc (.cells #[.string sn,.int .i64 sty] 54)).alloc (.cells #[.string (⟨#[105,110,32]⟩++sn++⟨#[32]⟩++tx)] 9)).drew:=(((iq wr.heap.size wr).alloc (gu _) (.cells #[.string sn,.int .i64 sty] 54)).alloc (by simp) (.cells #[.string (⟨#[105,110,32]⟩++sn++⟨#[32]⟩++tx)] 9)).drew;have Hq:=ak ((uh HL).on Ov);have U3:Hid (jd ((wr.alloc (.cells #[.string sn,.int .i64 sty] 54)).alloc (.cells #[.string (⟨#[105,110,32]⟩++sn++⟨#[32]⟩++tx)] 9)).drew wr.heap.size 54 #[.string sn,.int .i64 sty]):=(oh wr #[.string sn,.int .i64 sty] 54).below (((iq (wr.heap.size+1) _).alloc (by simp) _).drew) (Sl _);clear Ov
     have k0:(wr.alloc (.cells #[.string sn,.int .i64 sty] 54)).drew.cell? ⟨wr.heap.size,0,none⟩=some (.string sn):=by
      show (wr.alloc (.cells #[.string sn,.int .i64 sty] 54)).cell? _=_;rw[zu _ _ _ _ rfl];rfl
     have k1:(wr.alloc (.cells #[.string sn,.int .i64 sty] 54)).drew.cell? ⟨wr.heap.size,1,none⟩=some (.int .i64 sty):=by
      show (wr.alloc (.cells #[.string sn,.int .i64 sty] 54)).cell? _=_;rw[zu _ _ _ _ rfl];rfl
     clear hmem hsn hty;go_wp2_with fail
     go_region_held3 (fun w'=>w'.cell? ⟨wr.heap.size,0,none⟩=some (.string sn)/\w'.cell? ⟨wr.heap.size,1,none⟩=some (.int .i64 sty)) (go_keep) (first|(go_at_call 24;refine(uh HTY _).mono ?_;rintro e wj ⟨rfl,rfl⟩)|(refine ab3 ny _ rfl _ _ rfl (w.heap.size+1) _ _ rfl (uh Hq).own (wr.heap.size+1) (⟨#[105,110,32]⟩++sn++⟨#[32]⟩++tx) rfl (fun j u hu=>by (show (World.alloc _ _).cell? _=_);rw[zu _ _ _ _ (by simp)];simpa[ny] using hu) (by have h9:=uh Ho;show (_+1)*16<=_;omega) (uh Hq).size ?_;intro v2 w2 hown2 Kt;have HL2:=ak ((uh Hq).app hown2 Kt);have ab1:=ak ((Kt.block wr.heap.size (uh U3).lt (fun e=>ae8 (uh Hq).own (uh U3) (by decide) e.symm)).trans (uh U3));have k0:w2.cell? ⟨wr.heap.size,0,none⟩=some (.string sn):=jd.cell (uh ab1) (v:=.string sn) rfl;have k1:w2.cell? ⟨wr.heap.size,1,none⟩=some (.int .i64 sty):=jd.cell (uh ab1) (v:=.int .i64 sty) rfl;clear hown2 Kt))
     go_wp2
     go_roundg (ins.length-(q+1))
     case measure=>have:=uh HG;omega
     case rel=>exact⟨q+1,by omega,rfl,by go_num,(by rw[uh HT];exact HL2)⟩
    ·have e:q=ins.length:=by omega
     have HLn:Hid (LI (w.heap.size+1) cb #[.string nm,.slice b1 ins.length c1,.slice b2 au.length c2,.slice b3 iw.length c3,.slice b4 gq.length c4,.slice b5 ay.length c5,.slice b6 body.length c6] (w.alloc (.cells #[.slice (some ⟨b0,o0,none⟩) ks.length c0] 24)) wr u3 (A1++ins.map (fun s:jw=>oq [Ic,s.name,Bf s.type]))):=by
      have h8:=uh HL;rw[e,Dw] at h8;exact h8
     clear e HL HG;obtain⟨A2,hA2⟩:=o8 (A1++ins.map (fun s:jw=>oq [Ic,s.name,Bf s.type]));rw[←hA2] at HLn;have HA2:=ak hA2
     have Wj:Hid (A2.length=A1.length+(ins.length)):=by
      refine ak ?_;rw[hA2,jh,zy]
      try omega
     clear hA2
     have Zp:Hid (A2.length+au.length<=300000000):=by
      refine ak ?_;have h1:=uh Uk;have h2:=uh Wj;omega
     have k2:wr.cell? ⟨cb,2,none⟩=some (.slice b2 au.length c2):=(uh HLn).blk.cell (v:=.slice b2 au.length c2) rfl;have be9:cb<wr.heap.size:=(uh HLn).blk.lt;go_wp2
     go_loopg [3,60] au.length (fun gh st ix wr=>∃(q:Nat),q<=au.length/\gh=au.length-q/\ix=.int .i64 q/\Hid (LI (w.heap.size+1) cb #[.string nm,.slice b1 ins.length c1,.slice b2 au.length c2,.slice b3 iw.length c3,.slice b4 gq.length c4,.slice b5 ay.length c5,.slice b6 body.length c6] (w.alloc (.cells #[.slice (some ⟨b0,o0,none⟩) ks.length c0] 24)) wr st (A2++(au.take q).map (fun s:jw=>oq [Dz,s.name,Bf s.type]))))
     case atStart=>exact⟨0,jg _,by omega,rfl,(by rw[Nj,Fv,Aq];exact HLn)⟩
     case round =>
      obtain⟨q,hq,hg,rfl,HL⟩:=hrel;have HG:=ak hg;clear hg
      by_cases hlt:q<au.length
      ·have hbw:=uh Hz _ (uh HL).old
       obtain⟨_,_,Dq,_,_,hex⟩:=uh HS2;simp only[qw] at Dq;obtain⟨rfl,_,rfl⟩:=Dq;obtain⟨b,o,cs,rfl,_,hb,hcs,hc,hR⟩:=hex q hlt;have hc:∀j (hj:j<cs.length),wr.cell? ⟨b,o+q*2+j,none⟩=some cs[j]:=fun j hj=>by rw[hbw.cell (p:=⟨b,_,none⟩) hb];exact hc j hj
       obtain⟨rfl,hsn,hty⟩:=hR;have z0:=hc 0 (by simp);have z1:=hc 1 (by simp);simp only[jr,ji,og,ou] at z0 z1;have Kq:(q:Int)<(au.length:Int):=by omega
       have HT:=ak (map_take (fun s:jw=>oq [Dz,s.name,Bf s.type]) (A2) au q hlt)
       have Ho:Hid ((A2++(au.take q).map (fun s:jw=>oq [Dz,s.name,Bf s.type])).length<=300000000):=by
        refine ak ?_;rw[abn _ _ _ _ (by omega)];have:=uh Zp;omega
       have hmem:=o7 hlt;clear hc hcs hex;generalize A2++(au.take q).map (fun s:jw=>oq [Dz,s.name,Bf s.type])=pre at HL HT Ho;have HNS:=ak (uh a0r _ hmem)
       have HTX:Hid (oq [Dz,au[q].name,Bf au[q].type]=⟨#[111,117,116,32]⟩++au[q].name++⟨#[32]⟩++Bf au[q].type):=by
        refine ak ?_;rw[am5,a5f];simp only[Bv];rfl
       have hzt:=ad1 au[q].type;have HTY:=ak (al9 au[q].type);rw[uh HTX] at HT;generalize Bf au[q].type=tx at *;generalize au[q]=sl at *;obtain⟨sn,sty⟩:=sl;simp only at *;have ae2:=uh HNS;have q1:¬(9223372036854775807<4+sn.size):=by omega
       have q2:¬(9223372036854775807<4+sn.size+1):=by omega
       have q3:¬(9223372036854775807<4+sn.size+1+tx.size):=by omega
       have Ov:Below wr.heap.size wr ((wr.alloc (.cells #[.string sn,.int .i64 sty] 54)).alloc (.cells #[.string (⟨#[111,117,116,32]⟩++sn++⟨#[32]⟩++tx)] 9)).drew:=(((iq wr.heap.size wr).alloc (gu _) (.cells #[.string sn,.int .i64 sty] 54)).alloc (by simp) (.cells #[.string (⟨#[111,117,116,32]⟩++sn++⟨#[32]⟩++tx)] 9)).drew;have Hq:=ak ((uh HL).on Ov);have U3:Hid (jd ((wr.alloc (.cells #[.string sn,.int .i64 sty] 54)).alloc (.cells #[.string (⟨#[111,117,116,32]⟩++sn++⟨#[32]⟩++tx)] 9)).drew wr.heap.size 54 #[.string sn,.int .i64 sty]):=(oh wr #[.string sn,.int .i64 sty] 54).below (((iq (wr.heap.size+1) _).alloc (by simp) _).drew) (Sl _);clear Ov
       have k0:(wr.alloc (.cells #[.string sn,.int .i64 sty] 54)).drew.cell? ⟨wr.heap.size,0,none⟩=some (.string sn):=by
        show (wr.alloc (.cells #[.string sn,.int .i64 sty] 54)).cell? _=_;rw[zu _ _ _ _ rfl];rfl
       have k1:(wr.alloc (.cells #[.string sn,.int .i64 sty] 54)).drew.cell? ⟨wr.heap.size,1,none⟩=some (.int .i64 sty):=by
        show (wr.alloc (.cells #[.string sn,.int .i64 sty] 54)).cell? _=_;rw[zu _ _ _ _ rfl];rfl
       clear hmem hsn hty;go_wp2_with fail
       go_region_held3 (fun w'=>w'.cell? ⟨wr.heap.size,0,none⟩=some (.string sn)/\w'.cell? ⟨wr.heap.size,1,none⟩=some (.int .i64 sty)) (go_keep) (first|(go_at_call 24;refine(uh HTY _).mono ?_;rintro e wj ⟨rfl,rfl⟩)|(refine ab3 ny _ rfl _ _ rfl (w.heap.size+1) _ _ rfl (uh Hq).own (wr.heap.size+1) (⟨#[111,117,116,32]⟩++sn++⟨#[32]⟩++tx) rfl (fun j u hu=>by (show (World.alloc _ _).cell? _=_);rw[zu _ _ _ _ (by simp)];simpa[ny] using hu) (by have h9:=uh Ho;show (_+1)*16<=_;omega) (uh Hq).size ?_;intro v2 w2 hown2 Kt;have HL2:=ak ((uh Hq).app hown2 Kt);have ab1:=ak ((Kt.block wr.heap.size (uh U3).lt (fun e=>ae8 (uh Hq).own (uh U3) (by decide) e.symm)).trans (uh U3));have k0:w2.cell? ⟨wr.heap.size,0,none⟩=some (.string sn):=jd.cell (uh ab1) (v:=.string sn) rfl;have k1:w2.cell? ⟨wr.heap.size,1,none⟩=some (.int .i64 sty):=jd.cell (uh ab1) (v:=.int .i64 sty) rfl;clear hown2 Kt))
       go_wp2
       go_roundg (au.length-(q+1))
       case measure=>have:=uh HG;omega
       case rel=>exact⟨q+1,by omega,rfl,by go_num,(by rw[uh HT];exact HL2)⟩
      ·have e:q=au.length:=by omega
       have HLn:Hid (LI (w.heap.size+1) cb #[.string nm,.slice b1 ins.length c1,.slice b2 au.length c2,.slice b3 iw.length c3,.slice b4 gq.length c4,.slice b5 ay.length c5,.slice b6 body.length c6] (w.alloc (.cells #[.slice (some ⟨b0,o0,none⟩) ks.length c0] 24)) wr u3 (A2++au.map (fun s:jw=>oq [Dz,s.name,Bf s.type]))):=by
        have h8:=uh HL;rw[e,Dw] at h8;exact h8
       clear e HL HG;obtain⟨A3,hA3⟩:=o8 (A2++au.map (fun s:jw=>oq [Dz,s.name,Bf s.type]));rw[←hA3] at HLn;have HA3:=ak hA3
       have HQ3:Hid (A3.length=A1.length+(ins.length+au.length)):=by
        refine ak ?_;rw[hA3,jh,zy,uh Wj]
        try omega
       clear hA3
       have HN3:Hid (A3.length+iw.length<=300000000):=by
        refine ak ?_;have h1:=uh Uk;have h2:=uh HQ3;omega
       have k3:wr.cell? ⟨cb,3,none⟩=some (.slice b3 iw.length c3):=(uh HLn).blk.cell (v:=.slice b3 iw.length c3) rfl;have bfb:cb<wr.heap.size:=(uh HLn).blk.lt;go_wp2
       go_loopg [3,79] iw.length (fun gh st ix wr=>∃(q:Nat),q<=iw.length/\gh=iw.length-q/\ix=.int .i64 q/\Hid (LI (w.heap.size+1) cb #[.string nm,.slice b1 ins.length c1,.slice b2 au.length c2,.slice b3 iw.length c3,.slice b4 gq.length c4,.slice b5 ay.length c5,.slice b6 body.length c6] (w.alloc (.cells #[.slice (some ⟨b0,o0,none⟩) ks.length c0] 24)) wr st (A3++(iw.take q).map (fun x:dh=>oq [Ee,x]))))
       case atStart=>exact⟨0,jg _,by omega,rfl,(by rw[Nj,Fv,Aq];exact HLn)⟩
       case round =>
        obtain⟨q,hq,hg,rfl,HL⟩:=hrel;have HG:=ak hg;clear hg
        by_cases hlt:q<iw.length
        ·have hbw:=uh Hz _ (uh HL).old
         obtain⟨_,_,Dq,_,_,hex⟩:=uh Vj;simp only[qw] at Dq;obtain⟨rfl,_,rfl⟩:=Dq;obtain⟨b,o,cs,rfl,_,hb,hcs,hc,hR⟩:=hex q hlt;have hc:∀j (hj:j<cs.length),wr.cell? ⟨b,o+q*1+j,none⟩=some cs[j]:=fun j hj=>by rw[hbw.cell (p:=⟨b,_,none⟩) hb];exact hc j hj
         obtain⟨rfl,hsn⟩:=hR;have z0:=hc 0 (by simp);simp only[jr,ji,og,ou] at z0;have Kq:(q:Int)<(iw.length:Int):=by omega
         have HT:=ak (map_take (fun x:dh=>oq [Ee,x]) (A3) iw q hlt)
         have Ho:Hid ((A3++(iw.take q).map (fun x:dh=>oq [Ee,x])).length<=300000000):=by
          refine ak ?_;rw[abn _ _ _ _ (by omega)];have:=uh HN3;omega
         have hmem:=o7 hlt;clear hc hcs hex;generalize A3++(iw.take q).map (fun x:dh=>oq [Ee,x])=pre at HL HT Ho;have HNS:=ak (uh a0s _ hmem)
         have HTX:Hid (oq [Ee,iw[q]]=⟨#[108,111,99,32]⟩++iw[q]):=by
          refine ak ?_;rw[acu,a5h];simp only[Bv]
         rw[uh HTX] at HT;generalize iw[q]=x at *;have ae2:=uh HNS;have Hq:=ak ((uh HL).on ((iq wr.heap.size wr).alloc (gu _) (.cells #[.string (⟨#[108,111,99,32]⟩++x)] 9)));clear hmem hsn;go_wp2_with (at_builtin;go_must (refine Am ny _ rfl _ _ rfl (w.heap.size+1) _ _ rfl (uh Hq).own wr.heap.size (⟨#[108,111,99,32]⟩++x) rfl (fun j u hu=>by rw[zu _ _ _ _ rfl];simpa[ny] using hu) (by have h9:=uh Ho;show (_+1)*16<=_;omega) (uh Hq).size ?_));intro v2 w2 hown2 Kt;have HL2:=ak ((uh Hq).app hown2 Kt);clear hown2 Kt;go_wp2
         go_roundg (iw.length-(q+1))
         case measure=>have:=uh HG;omega
         case rel=>exact⟨q+1,by omega,rfl,by go_num,(by rw[uh HT];exact HL2)⟩
        ·have e:q=iw.length:=by omega
         have HLn:Hid (LI (w.heap.size+1) cb #[.string nm,.slice b1 ins.length c1,.slice b2 au.length c2,.slice b3 iw.length c3,.slice b4 gq.length c4,.slice b5 ay.length c5,.slice b6 body.length c6] (w.alloc (.cells #[.slice (some ⟨b0,o0,none⟩) ks.length c0] 24)) wr u3 (A3++iw.map (fun x:dh=>oq [Ee,x]))):=by
          have h8:=uh HL;rw[e,Dw] at h8;exact h8
         clear e HL HG;obtain⟨A4,hA4⟩:=o8 (A3++iw.map (fun x:dh=>oq [Ee,x]));rw[←hA4] at HLn;have HA4:=ak hA4
         have HQ4:Hid (A4.length=A1.length+(ins.length+au.length+iw.length)):=by
          refine ak ?_;rw[hA4,jh,zy,uh HQ3]
          try omega
         clear hA4
         have HN4:Hid (A4.length+gq.length<=300000000):=by
          refine ak ?_;have h1:=uh Uk;have h2:=uh HQ4;omega
         have k4:wr.cell? ⟨cb,4,none⟩=some (.slice b4 gq.length c4):=(uh HLn).blk.cell (v:=.slice b4 gq.length c4) rfl;have bfc:cb<wr.heap.size:=(uh HLn).blk.lt;go_wp2
         go_loopg [3,92] gq.length (fun gh st ix wr=>∃(q:Nat),q<=gq.length/\gh=gq.length-q/\ix=.int .i64 q/\Hid (LI (w.heap.size+1) cb #[.string nm,.slice b1 ins.length c1,.slice b2 au.length c2,.slice b3 iw.length c3,.slice b4 gq.length c4,.slice b5 ay.length c5,.slice b6 body.length c6] (w.alloc (.cells #[.slice (some ⟨b0,o0,none⟩) ks.length c0] 24)) wr st (A4++(gq.take q).map (fun v:Int=>oq [Ef,qo v]))))
         case atStart=>exact⟨0,jg _,by omega,rfl,(by rw[Nj,Fv,Aq];exact HLn)⟩
         case round =>
          obtain⟨q,hq,hg,rfl,HL⟩:=hrel;have HG:=ak hg;clear hg
          by_cases hlt:q<gq.length
          ·have hbw:=uh Hz _ (uh HL).old
           obtain⟨_,_,Dq,_,_,hex⟩:=uh Q8;simp only[qw] at Dq;obtain⟨rfl,_,rfl⟩:=Dq;obtain⟨b,o,cs,rfl,_,hb,hcs,hc,hR⟩:=hex q hlt;have hc:∀j (hj:j<cs.length),wr.cell? ⟨b,o+q*1+j,none⟩=some cs[j]:=fun j hj=>by rw[hbw.cell (p:=⟨b,_,none⟩) hb];exact hc j hj
           obtain⟨rfl,hsn⟩:=hR;have z0:=hc 0 (by simp);simp only[jr,ji,og,ou] at z0;have Kq:(q:Int)<(gq.length:Int):=by omega
           have HT:=ak (map_take (fun v:Int=>oq [Ef,qo v]) (A4) gq q hlt)
           have Ho:Hid ((A4++(gq.take q).map (fun v:Int=>oq [Ef,qo v])).length<=300000000):=by
            refine ak ?_;rw[abn _ _ _ _ (by omega)];have:=uh HN4;omega
           have hmem:=o7 hlt;clear hc hcs hex;generalize A4++(gq.take q).map (fun v:Int=>oq [Ef,qo v])=pre at HL HT Ho;have hv32:=(uh Qb).gq _ hmem
           have HTX:Hid (oq [Ef,qo gq[q]]=⟨#[109,101,109,32]⟩++qo gq[q]):=by
            refine ak ?_;rw[acu,a5i];simp only[Bv]
           rw[uh HTX] at HT;have HDC:=ak (ab2 gq[q] hv32 wr);have hdz:=Qh gq[q] hv32;generalize qo gq[q]=dv at *;generalize gq[q]=x at *;clear hmem hsn hv32;go_wp2_with fail;refine(uh HDC).mono ?_;rintro e w9 ⟨rfl,yx⟩;have Hq:=ak ((uh HL).on (yx.alloc yx.size (.cells #[.string (⟨#[109,101,109,32]⟩++dv)] 9)));clear yx;go_wp2_with (at_builtin;go_must (refine Am ny _ rfl _ _ rfl (w.heap.size+1) _ _ rfl (uh Hq).own w9.heap.size (⟨#[109,101,109,32]⟩++dv) rfl (fun j u hu=>by rw[zu _ _ _ _ rfl];simpa[ny] using hu) (by have h9:=uh Ho;show (_+1)*16<=_;omega) (uh Hq).size ?_));intro v2 w2 hown2 Kt;have HL2:=ak ((uh Hq).app hown2 Kt);clear hown2 Kt;go_wp2
           go_roundg (gq.length-(q+1))
           case measure=>have:=uh HG;omega
           case rel=>exact⟨q+1,by omega,rfl,by go_num,(by rw[uh HT];exact HL2)⟩
          ·have e:q=gq.length:=by omega
           have HLn:Hid (LI (w.heap.size+1) cb #[.string nm,.slice b1 ins.length c1,.slice b2 au.length c2,.slice b3 iw.length c3,.slice b4 gq.length c4,.slice b5 ay.length c5,.slice b6 body.length c6] (w.alloc (.cells #[.slice (some ⟨b0,o0,none⟩) ks.length c0] 24)) wr u3 (A4++gq.map (fun v:Int=>oq [Ef,qo v]))):=by
            have h8:=uh HL;rw[e,Dw] at h8;exact h8
           clear e HL HG;obtain⟨A5,hA5⟩:=o8 (A4++gq.map (fun v:Int=>oq [Ef,qo v]));rw[←hA5] at HLn;have HA5:=ak hA5
           have HQ5:Hid (A5.length=A1.length+(ins.length+au.length+iw.length+gq.length)):=by
            refine ak ?_;rw[hA5,jh,zy,uh HQ4]
            try omega
           clear hA5
           have HN5:Hid (A5.length+ay.length<=300000000):=by
            refine ak ?_;have h1:=uh Uk;have h2:=uh HQ5;omega
           have k5:wr.cell? ⟨cb,5,none⟩=some (.slice b5 ay.length c5):=(uh HLn).blk.cell (v:=.slice b5 ay.length c5) rfl;have bfd:cb<wr.heap.size:=(uh HLn).blk.lt;go_wp2
           go_loopg [3,106] ay.length (fun gh st ix wr=>∃(q:Nat),q<=ay.length/\gh=ay.length-q/\ix=.int .i64 q/\Hid (LI (w.heap.size+1) cb #[.string nm,.slice b1 ins.length c1,.slice b2 au.length c2,.slice b3 iw.length c3,.slice b4 gq.length c4,.slice b5 ay.length c5,.slice b6 body.length c6] (w.alloc (.cells #[.slice (some ⟨b0,o0,none⟩) ks.length c0] 24)) wr st (A5++(ay.take q).map (fun g:Int=>oq [Eh,Lm ks g]))))
           case atStart=>exact⟨0,jg _,by omega,rfl,(by rw[Nj,Fv,Aq];exact HLn)⟩
           case round =>
            obtain⟨q,hq,hg,rfl,HL⟩:=hrel;have HG:=ak hg;clear hg
            by_cases hlt:q<ay.length
            ·have hbw:=uh Hz _ (uh HL).old
             obtain⟨_,_,Dq,_,_,hex⟩:=uh HS5;simp only[qw] at Dq;obtain⟨rfl,_,rfl⟩:=Dq;obtain⟨b,o,cs,rfl,_,hb,hcs,hc,hR⟩:=hex q hlt;have hc:∀j (hj:j<cs.length),wr.cell? ⟨b,o+q*1+j,none⟩=some cs[j]:=fun j hj=>by rw[hbw.cell (p:=⟨b,_,none⟩) hb];exact hc j hj
             obtain⟨rfl,hsn⟩:=hR;have z0:=hc 0 (by simp);simp only[jr,ji,og,ou] at z0;have Kq:(q:Int)<(ay.length:Int):=by omega
             have HT:=ak (map_take (fun g:Int=>oq [Eh,Lm ks g]) (A5) ay q hlt)
             have Ho:Hid ((A5++(ay.take q).map (fun g:Int=>oq [Eh,Lm ks g])).length<=300000000):=by
              refine ak ?_;rw[abn _ _ _ _ (by omega)];have:=uh HN5;omega
             have hmem:=o7 hlt;clear hc hcs hex;generalize A5++(ay.take q).map (fun g:Int=>oq [Eh,Lm ks g])=pre at HL HT Ho;obtain⟨hg0,hg1⟩:=(uh Qb).ins _ hmem;have hgn:=(uh Qb).nm _ hmem;obtain⟨gi,hgi⟩:=Ht hg0;have hgk:gi<ks.length:=by omega
             have akz:Lm ks ay[q]=ks[gi].name:=by
              unfold Lm;rw[hgi];show (match ks[gi]? with|some k=>k.name|none=>ByteArray.empty)=_
              rw[jy hgk]
             have HTX:Hid (oq [Eh,Lm ks ay[q]]=⟨#[117,115,101,32]⟩++ks[gi].name):=by
              refine ak ?_;rw[acu,a5j,akz];simp only[Bv]
             rw[uh HTX] at HT;rw[akz] at hgn;obtain⟨gb,go,gcs,aoc,_,hgb,a0u,hgc,hgR⟩:=uh HX gi hgk;simp only[uw,Addr.mk.injEq] at aoc;obtain⟨rfl,rfl,_⟩:=aoc
             have g0:wr.cell? ⟨b0,o0+gi*7,none⟩=some (.string ks[gi].name):=by
              rw[hbw.cell (p:=⟨b0,_,none⟩) hgb];obtain⟨_,_,_,_,_,_,rfl,_⟩:=hgR;exact hgc 0 (by simp)
             have km:wr.cell? ⟨w.heap.size,0,none⟩=some (.slice (some ⟨b0,o0,none⟩) ks.length c0):=(Bz (B:=0) (uh HL).old 0).trans rfl;have bdg:(gi:Int)<(ks.length:Int):=by omega
             rw[hgi] at z0;generalize ks[gi].name=x at *;have Hq:=ak ((uh HL).on ((iq wr.heap.size wr).alloc (gu _) (.cells #[.string (⟨#[117,115,101,32]⟩++x)] 9)));clear hmem hsn hg0 hg1 hgi akz a0u hgc hgR;go_wp2_with (at_builtin;go_must (refine Am ny _ rfl _ _ rfl (w.heap.size+1) _ _ rfl (uh Hq).own wr.heap.size (⟨#[117,115,101,32]⟩++x) rfl (fun j u hu=>by rw[zu _ _ _ _ rfl];simpa[ny] using hu) (by have h9:=uh Ho;show (_+1)*16<=_;omega) (uh Hq).size ?_));intro v2 w2 hown2 Kt;have HL2:=ak ((uh Hq).app hown2 Kt);clear hown2 Kt;go_wp2
             go_roundg (ay.length-(q+1))
             case measure=>have:=uh HG;omega
             case rel=>exact⟨q+1,by omega,rfl,by go_num,(by rw[uh HT];exact HL2)⟩
            ·have e:q=ay.length:=by omega
             have HLn:Hid (LI (w.heap.size+1) cb #[.string nm,.slice b1 ins.length c1,.slice b2 au.length c2,.slice b3 iw.length c3,.slice b4 gq.length c4,.slice b5 ay.length c5,.slice b6 body.length c6] (w.alloc (.cells #[.slice (some ⟨b0,o0,none⟩) ks.length c0] 24)) wr u3 (A5++ay.map (fun g:Int=>oq [Eh,Lm ks g]))):=by
              have h8:=uh HL;rw[e,Dw] at h8;exact h8
             clear e HL HG;obtain⟨A6,hA6⟩:=o8 (A5++ay.map (fun g:Int=>oq [Eh,Lm ks g]));rw[←hA6] at HLn;have HA6:=ak hA6
             have HQ6:Hid (A6.length=A1.length+(ins.length+au.length+iw.length+gq.length+ay.length)):=by
              refine ak ?_;rw[hA6,jh,zy,uh HQ5]
              try omega
             clear hA6
             have HN6:Hid (A6.length+body.length<=300000000):=by
              refine ak ?_;have h1:=uh Uk;have h2:=uh HQ6;omega
             have k6:wr.cell? ⟨cb,6,none⟩=some (.slice b6 body.length c6):=(uh HLn).blk.cell (v:=.slice b6 body.length c6) rfl;have bfe:cb<wr.heap.size:=(uh HLn).blk.lt;go_wp2
             go_loopg [3,124] body.length (fun gh st ix wr=>∃(q:Nat),q<=body.length/\gh=body.length-q/\ix=.int .i64 q/\Hid (LI (w.heap.size+1) cb #[.string nm,.slice b1 ins.length c1,.slice b2 au.length c2,.slice b3 iw.length c3,.slice b4 gq.length c4,.slice b5 ay.length c5,.slice b6 body.length c6] (w.alloc (.cells #[.slice (some ⟨b0,o0,none⟩) ks.length c0] 24)) wr st (A6++(body.take q).map (fun s:lu=>oq (x9 s)))))
             case atStart=>exact⟨0,jg _,by omega,rfl,(by rw[Nj,Fv,Aq];exact HLn)⟩
             case round =>
              obtain⟨q,hq,hg,rfl,HL⟩:=hrel;have HG:=ak hg;clear hg
              by_cases hlt:q<body.length
              ·have hbw:=uh Hz _ (uh HL).old
               obtain⟨_,_,Dq,_,_,hex⟩:=uh HS6;simp only[qw] at Dq;obtain⟨rfl,_,rfl⟩:=Dq;obtain⟨b,o,cs,rfl,_,hb,hcs,hc,hR⟩:=hex q hlt;have hc:∀j (hj:j<cs.length),wr.cell? ⟨b,o+q*6+j,none⟩=some cs[j]:=fun j hj=>by rw[hbw.cell (p:=⟨b,_,none⟩) hb];exact hc j hj
               obtain⟨s1,s2,s3,rfl,hsn,hk1,hk2,g1,g2,g3⟩:=hR;have z0:=hc 0 (by simp);have z1:=hc 1 (by simp);have z2:=hc 2 (by simp);have z3:=hc 3 (by simp);have z4:=hc 4 (by simp);have z5:=hc 5 (by simp);simp only[jr,ji,og,ou] at z0 z1 z2 z3 z4 z5;have Kq:(q:Int)<(body.length:Int):=by omega
               have HT:=ak (map_take (fun s:lu=>oq (x9 s)) (A6) body q hlt)
               have Ho:Hid ((A6++(body.take q).map (fun s:lu=>oq (x9 s))).length<=300000000):=by
                refine ak ?_;rw[abn _ _ _ _ (by omega)];have:=uh HN6;omega
               have hmem:=o7 hlt;clear hc hcs hex;generalize A6++(body.take q).map (fun s:lu=>oq (x9 s))=pre at HL HT Ho;have ak0:=uh a0t _ hmem;have HLQ:=ak (aw6 body[q] s1 s2 s3 (wr.alloc (.cells #[.int .i64 body[q].kind,.string body[q].name,.int .i64 body[q].at_,s1,s2,s3] 60)) ak0 ((g1.stays zk hbw).stays zk ((iq _ _).alloc (gu _) _)) ((g2.stays Ad hbw).stays Ad ((iq _ _).alloc (gu _) _)) ((g3.stays I8 hbw).stays I8 ((iq _ _).alloc (gu _) _)));have P1:=ak ((iq wr.heap.size wr).alloc (gu _) (.cells #[.int .i64 body[q].kind,.string body[q].name,.int .i64 body[q].at_,s1,s2,s3] 60));generalize oq (x9 body[q])=ln at *;generalize body[q]=st at *;obtain⟨oa,oc,rfl⟩:=g1.shape;obtain⟨ca,cc,rfl⟩:=g2.shape;obtain⟨aa,ac,rfl⟩:=g3.shape;obtain⟨kd,snm,at0,bby,code,args⟩:=st;simp only at *;clear hmem ak0 g1 g2 g3 hk1 hk2 hsn;go_wp2_with fail;refine(uh HLQ).mono ?_;rintro e w9 ⟨rfl,yx⟩;have Q1:Hid (Below wr.heap.size wr w9):=(uh P1).trans (yx.mono (uh P1).size);have Hq:=ak ((uh HL).on ((uh Q1).alloc (uh Q1).size (.cells #[.string ln] 9)));clear yx;go_wp2_with (at_builtin;go_must (refine Am ny _ rfl _ _ rfl (w.heap.size+1) _ _ rfl (uh Hq).own w9.heap.size ln rfl (fun j u hu=>by rw[zu _ _ _ _ rfl];simpa[ny] using hu) (by have h9:=uh Ho;show (_+1)*16<=_;omega) (uh Hq).size ?_));intro v2 w2 hown2 Kt;have HL2:=ak ((uh Hq).app hown2 Kt);clear hown2 Kt;go_wp2
               go_roundg (body.length-(q+1))
               case measure=>have:=uh HG;omega
               case rel=>exact⟨q+1,by omega,rfl,by go_num,(by rw[uh HT];exact HL2)⟩
              ·have e:q=body.length:=by omega
               have HLn:Hid (LI (w.heap.size+1) cb #[.string nm,.slice b1 ins.length c1,.slice b2 au.length c2,.slice b3 iw.length c3,.slice b4 gq.length c4,.slice b5 ay.length c5,.slice b6 body.length c6] (w.alloc (.cells #[.slice (some ⟨b0,o0,none⟩) ks.length c0] 24)) wr u3 (A6++body.map (fun s:lu=>oq (x9 s)))):=by
                have h8:=uh HL;rw[e,Dw] at h8;exact h8
               clear e HL HG;obtain⟨A7,hA7⟩:=o8 (A6++body.map (fun s:lu=>oq (x9 s)));rw[←hA7] at HLn;have HA7:=ak hA7
               have HQ7:Hid (A7.length=A1.length+(ins.length+au.length+iw.length+gq.length+ay.length+body.length)):=by
                refine ak ?_;rw[hA7,jh,zy,uh HQ6]
                try omega
               clear hA7;have Hq:=ak ((uh HLn).on ((iq wr.heap.size wr).alloc (gu _) (.cells #[.string ⟨#[101,110,100,99,108,97,115,115]⟩] 9)))
               have Ho:Hid (A7.length<=300000000):=by
                refine ak ?_;have h1:=uh Uk;have h2:=uh HQ7;omega
               go_wp2_with (at_builtin;go_must (refine Am ny _ rfl _ _ rfl (w.heap.size+1) _ _ rfl (uh Hq).own wr.heap.size ⟨#[101,110,100,99,108,97,115,115]⟩ rfl (fun j u hu=>by rw[zu _ _ _ _ rfl];simpa[ny] using hu) (by have h9:=uh Ho;show (_+1)*16<=_;omega) (uh Hq).size ?_));intro v2 w2 hown2 Kt;have HL2:=ak ((uh Hq).app hown2 Kt);clear hown2 Kt
               have qx:Hid (A7++[⟨#[101,110,100,99,108,97,115,115]⟩]=prior ks (i+1)):=by
                refine ak ?_;rw[uh Oc,uh HA7,uh HA6,uh HA5,uh HA4,uh HA3,uh HA2,uh HA1];unfold Hu;rw[acu,ag7,a5g];simp only[Gl,Ew,Gm,Bv];rfl
               have HO9:Hid (jq ny w2 (w.heap.size+1) v2 (prior ks (i+1))):=by
                have h8:=(uh HL2).own;rw[uh qx] at h8;exact h8
               have Wu:=ak (uh HL2).old;clear HL2 qx;go_wp2
               go_roundg (ks.length-(i+1))
               case measure=>have:=uh HG0;omega
               case rel=>exact⟨i+1,by omega,rfl,by go_num,HO9,Wu⟩
  ·have e:i=ks.length:=by omega
   have U6:Hid (jq ny wr (w.heap.size+1) u3 (G8 ks)):=by
    have h8:=uh HOW;rw[e] at h8;unfold prior at h8;rw[Dw] at h8;exact h8
   have a0w:=ak (akx (G8 ks));have hall:=uh asq;have bep:=abm (G8 ks)
   have bdk:Hid (F6 ((G8 ks).take (G8 ks).length)=TX):=by
    refine ak ?_;rw[Dw];exact uh bdj
   have HTK:=ak (ao7 (G8 ks));have HTZ:=ak (a5k (G8 ks));clear e HOW HX HPR Fa HV;generalize G8 ks=LL at *;have Ov:=(iq wr.heap.size wr).alloc (gu _) (.cells #[] 5);have Ua:=ak ((uh U6).below Ov);have bdl:=ak ((uh Bc).trans (Ov.mono hws));have HR1:Hid ((wr.alloc (.cells #[] 5)).ownsRow (w.heap.size+1) 5 1 (.slice (some ⟨wr.heap.size,0,none⟩) 0 0) 0 (Lib.strCells ByteArray.empty)):=⟨rfl,Or.inr ⟨_,_,#[],rfl,hws,Deep.blk_alloc_new _ _,gu _,jg _,by simp,by simp[Lib.strCells]⟩⟩;obtain⟨la,lc,hu3⟩:=(uh U6).slice;subst hu3;obtain⟨iB,hiB,hB0,hB1,hB2⟩:=info_parts axa;have HIB:=ak (And.intro hiB (And.intro hB0 (And.intro hB1 hB2)));clear Ov hiB hB0 hB1 hB2;go_wp2
   go_loopg [18,141] LL.length (fun gh ov ix wr=>∃(q:Nat),q<=LL.length/\gh=LL.length-q/\ix=.int .i64 q/\Hid (wr.ownsRow (w.heap.size+1) 5 1 ov (F6 (LL.take q)).size (Lib.strCells (F6 (LL.take q))))/\Hid (jq ny wr (w.heap.size+1) (.slice la LL.length lc) LL)/\Hid (Below (w.heap.size+1) (w.alloc (.cells #[.slice (some ⟨b0,o0,none⟩) ks.length c0] 24)) wr))
   case atStart=>exact⟨0,jg _,by omega,rfl,HR1,Ua,bdl⟩
   case round =>
    obtain⟨q,hq,hg,rfl,HR,HO,HB⟩:=hrel;have HG:=ak hg;clear hg;have hws2:w.heap.size+1<=wr.heap.size:=by have:=(uh HB).size;simpa using this
    by_cases hlt:q<LL.length
    ·have hsl:=(uh HO).at (R:=xk) (fun x hx=>⟨rfl,by have:=uh a0w x hx;unfold Len;omega⟩) (by show _*16<=_;omega)
     obtain⟨_,_,Dq,_,_,hex⟩:=hsl;simp only[qw] at Dq;obtain⟨rfl,_,rfl⟩:=Dq;obtain⟨b,o,cs,rfl,_,hb,hcs,hc,⟨rfl,_⟩⟩:=hex q hlt
     have z0:wr.cell? ⟨b,o+q,none⟩=some (.string LL[q]):=by
      have h0:=hc 0 (by simp);have e1:ny.sz=1:=rfl;rw[e1,jr,ji] at h0;exact h0
     have Kq:(q:Int)<(LL.length:Int):=by omega
     have HT:=ak (uh HTK q hlt);have hz:=uh HTZ q hlt;obtain⟨iB1,iB2,iB3,iB4⟩:=uh HIB;have HII:=ak (And.intro iB1 (And.intro iB2 (And.intro iB3 iB4)));clear hex hc hcs iB1 iB2 iB3 iB4;generalize F6 (LL.take q)=tq at *;generalize LL[q]=ln at *;go_wp2_with (at_builtin;go_must (refine Lib.wpList_append_own_string _ rfl _ _ 64 9 rfl (w.heap.size+1) 5 iB Tryz.underlying64 Tryz.underlying9 (uh HII).1 (uh HII).2.1 (uh HII).2.2.1 (uh HII).2.2.2 _ _ _ rfl (uh HR) ln rfl (by unfold maxLen;omega) (by omega) hws2 ?_));intro v7 w7 hr7 hg7 _;have HR7:=ak (hr7);have a9m:=ari (uh HO) (uh HR) (by decide);have Xd:=ak (ao6 (uh HO) hg7 a9m);have Zn:=ak ((uh HB).grown hg7 hws2 (fun k e=>(own_base (uh HR) k e)));have bdm:w.heap.size+1<=w7.heap.size:=ku hws2 hg7.size;have Ov:=(iq w7.heap.size w7).alloc (gu _) (.cells #[.int .u8 10] 5);have HR8:=ak (axb (uh HR7) Ov);have HO8:=ak ((uh Xd).below Ov);have HB8:=ak ((uh Zn).trans (Ov.mono bdm));clear hr7 hg7 a9m Ov;go_wp2_with (at_builtin;go_must (refine wpList_append_own _ rfl _ _ 64 rfl (w.heap.size+1) 5 iB (.int .u8 0) 1 1 Tryz.underlying64 (uh HII).1 (uh HII).2.1 (uh HII).2.2.1 (uh HII).2.2.2 rfl (by decide) _ _ _ rfl (uh HR8) ⟨w7.heap.size,0,none⟩ 1 1 [.int .u8 10] rfl rfl (fun j u hu=>by rw[Addr.add_lit,Ba,zu _ _ _ _ rfl];simpa using hu) (fun u hu=>by simp only[qj,xq,xu] at hu;subst hu;rfl) (by unfold maxLen;omega) (by omega) (by simp;omega) ?_));intro v9 w9 hr9 hg9 _;have a9n:=ari (uh HO8) (uh HR8) (by decide);have HO9:=ak (ao6 (uh HO8) hg9 a9n);have Wu:=ak ((uh HB8).grown hg9 (by simp;omega) (fun k e=>(own_base (uh HR8) k e)))
     have HR9:Hid (w9.ownsRow (w.heap.size+1) 5 1 v9 (F6 (LL.take (q+1))).size (Lib.strCells (F6 (LL.take (q+1))))):=by
      refine ak ?_;rw[uh HT,Xu,Xu,Kz,Kz];have e1:Wnl.size=1:=rfl;have e2:Lib.strCells Wnl=[.int .u8 10]:=rfl;rw[e1,e2,←Nat.add_assoc];exact hr9
     clear hr9 hg9 a9n;go_wp2
     go_roundg (LL.length-(q+1))
     case measure=>have:=uh HG;omega
     case rel=>exact⟨q+1,by omega,rfl,by go_num,HR9,HO9,Wu⟩
    ·have e:q=LL.length:=by omega
     have hcv:(convert 64 9 u18).run Tryz.prog wr=.ok (.string TX) wr:=by
      have h8:=uh HR;rw[e,uh bdk] at h8;exact a1a wr _ _ _ _ h8
     have HF:=ak (uh Hz _ (uh HB));clear e;go_wp2;go_ret;exact⟨rfl,uh HF⟩
end Go.Proofs.YtfeejeflmcapoaaGreatDoor
