import Derived.Test.YtfeejeflmcapoaaGreatDoorRI5
import Derived.Test.YtfeejeflmcapoaaGreatDoorRG1
import Derived.Deep.RegionLaw
import Derived.Lib.AppendStr
import Derived.Laws.BytesString
set_option linter.unusedSimpArgs false
set_option linter.unusedVariables false
set_option maxHeartbeats 16000000
namespace Go.Proofs.YtfeejeflmcapoaaGreatDoor
open Go.RowKit
theorem ab6 {P:Program} {α:Type} (E:F6 P α) (w:bf) {ops:Array Oper} {o:Oper} {a:Act} {K:Act->bf->Prop} {Q:Exit->Act->bf->Prop} {Er:Prop} (hgd:o.guard=none) (s x:Operand)
  (ho:o.op=.call { callee:=.builtin .append,args:=#[s,x],argTypes:=#[E.ST,E.ST] })
  (base:Nat) (v:Value) (xs:List α) (hs:a.eval s=v) (hown:jm E w base v xs)
  (eb:Nat) (y:α) (hx:a.eval x=.slice (some ⟨eb,0,none⟩) 1 1) (hy:∀j u,(E.f y)[j]?=some u->w.cell? ⟨eb,j,none⟩=some u) (hb:(xs.length+1)*E.qy<=140737488355328) (hbase:base<=w.heap.size)
  (h:∀v' w',jm E w' base v' (xs++[y])->w.grownBy w' v.ownBlock->K (a.put o.dst v') w') :
  if Region.wanted o (yielded ops a.tmps)=true then Oper.wp P o a w K Q else Er:=by
 have hwant:Region.wanted o (yielded ops a.tmps)=true:=by simp[Region.wanted,hgd]
 rw[gu hwant];obtain⟨i,hi,hz0,hz1,hz2⟩:=info_parts E.hi;have hlen:xs.length+1<=140737488355328:=jq (Xe _ E.hby) hb;refine wp_append_own w s x E.ST ho base E.T i _ E.sz E.qy E.hT hi hz0 hz1 hz2 E.hz E.hsz v xs.length (xs.flatMap E.f) hs hown _ 1 1 (E.f y) hx (by rw[E.hf];omega) (fun j u hu=>?_) (E.h1 y) (by simp[maxLen];omega) hb hbase ?_
 ·rw[Addr.add_lit,Bh]
  exact hy j u hu
 ·intro v' w' h1 h2 h3
  refine h v' w' ?_ h2;unfold jm;rw[je,List.flatMap_append];simpa using h1
theorem afa {P:Program} {α:Type} {E:F6 P α} {w:bf} {b1 g:Nat} {v:Value} {xs:List α} {T:TypeId} {cs:Array Value} (h1:jm E w b1 v xs) (h2:jc w g T cs) (ht:E.T≠T):v.ownBlock≠some g:=fun e=>by
 rcases h1.2 with ⟨rfl,_⟩|⟨g',cap,cur,rfl,_,hg,_⟩
 ·cases e
 ·simp only[Value.ownBlock,uo] at e
  subst e;unfold jc at h2;rw[hg] at h2;simp only[uo,Obj.cells.injEq] at h2;exact ht h2.2.1
structure LI (base c:Nat) (cells:Array Value) (W0 wr:bf) (st:Value) (ls:List dh):Prop where
 own:jm ni wr base st ls
 blk:jc wr c 50 cells
 old:Below base W0 wr
 size:base<=wr.heap.size
theorem LI.on {base c:Nat} {cells:Array Value} {W0 wr w1:bf} {st:Value} {ls:List dh} (h:LI base c cells W0 wr st ls) (hb:Below wr.heap.size wr w1):LI base c cells W0 w1 st ls :=
 ⟨h.own.below hb,h.blk.below hb h.blk.lt,h.old.trans (hb.mono h.size),jq h.size hb.size⟩
theorem LI.app {base c:Nat} {cells:Array Value} {W0 wr w2:bf} {st st2:Value} {ls:List dh} {l:dh} (h:LI base c cells W0 wr st ls) (ho:jm ni w2 base st2 (ls++[l])) (hg:wr.grownBy w2 st.ownBlock):LI base c cells W0 w2 st2 (ls++[l]) :=
 ⟨ho,(hg.block c h.blk.lt (fun e=>afa h.own h.blk (by decide) e.symm)).trans h.blk,h.own.grown h.old hg h.size (gq _),jq h.size hg.size⟩
structure asr (ks:List dw):Prop where
 cls:∀k,k∈ks->asx ks k
 ln:∀k,k∈ks->∀s,s∈k.body->anr s
 nm:∀k,k∈ks->k.name.size<=1048576∧(∀s,s∈k.ins->s.name.size<=1048576)∧(∀s,s∈k.ak->s.name.size<=1048576)∧∀x,x∈k.iq->x.size<=1048576
 len:∀k,k∈ks->k.ins.length<=1048576∧k.ak.length<=1048576∧k.iq.length<=1048576∧k.body.length<=1048576
 all:vk (Ho ks)<=200000000
theorem bab:(⟨#[105,110,32]⟩:dh)=Ik++Lsp:=by decide
theorem a5q:(⟨#[111,117,116,32]⟩:dh)=Ee++Lsp:=by decide
theorem a5r:(⟨#[99,108,97,115,115,32]⟩:dh)=vg++Lsp:=by decide
theorem a5s:(⟨#[108,111,99,32]⟩:dh)=Eo++Lsp:=by decide
theorem a5t:(⟨#[109,101,109,32]⟩:dh)=Ep++Lsp:=by decide
theorem a5u:(⟨#[117,115,101,32]⟩:dh)=Es++Lsp:=by decide
def prior (ks:List dw) (i:Nat):List dh:=(ks.take i).flatMap (Ia ks)
theorem ajg (ks:List dw) (i:Nat) (h:i<ks.length):prior ks (i+1)=prior ks i++Ia ks ks[i]:=by
 unfold prior;rw[Fb h,List.flatMap_append];simp
theorem axe (ks:List dw) (i:Nat):(prior ks i).length<=vk (Ho ks):=by
 have h:=abp (prior ks i)
 have h2:vk (Ho ks)=vk (prior ks i)+vk ((ks.drop i).flatMap (Ia ks)):=by
  rw[←Fj];unfold prior Ho;rw[←List.flatMap_append,Pj]
 omega
theorem map_take {α:Type} (f:α->dh) (A:List dh) (xs:List α) (q:Nat) (h:q<xs.length):A++(xs.take (q+1)).map f=(A++(xs.take q).map f)++[f xs[q]]:=by
 rw[Fb h,Il,Gt];rfl
theorem abq {α:Type} (f:α->dh) (A:List dh) (xs:List α) (q:Nat) (h:q<=xs.length):(A++(xs.take q).map f).length=A.length+q:=by
 rw[je,Ad,Nq];omega
theorem ao9 {P:Program} {α:Type} {E:F6 P α} {w w':bf} {base:Nat} {v:Value} {xs:List α} {row:Option Nat} (h:jm E w base v xs) (hg:w.grownBy w' row) (hne:∀b,v.ownBlock=some b->row≠some b):jm E w' base v xs:=by
 obtain⟨h1,h2⟩:=h;refine⟨h1,?_⟩;rcases h2 with h2|⟨g,cap,cur,rfl,hb,hh,r⟩
 ·exact Or.inl h2
 ·exact Or.inr ⟨g,cap,cur,rfl,hb,(hg.block g (Jk.1 hh).1 (fun e=>hne g rfl e.symm)).trans hh,r⟩
theorem arn {P:Program} {α:Type} {E:F6 P α} {w:bf} {b1 b2:Nat} {v u:Value} {xs:List α} {T:TypeId} {sz n:Nat} {ys:List Value} (h1:jm E w b1 v xs) (h2:w.ownsRow b2 T sz u n ys) (ht:E.T≠T):∀b,v.ownBlock=some b->u.ownBlock≠some b:=fun b e1 e2=>by
 rcases h1.2 with ⟨rfl,_⟩|⟨g,cap,cur,rfl,_,hg,_⟩
 ·cases e1
 ·rcases h2.2 with ⟨rfl,_⟩|⟨g',cap',cur',rfl,_,hg',_⟩
  ·cases e2
  ·simp only[Value.ownBlock,uo] at e1 e2
   subst e1;subst e2;rw[hg] at hg';simp only[uo,Obj.cells.injEq] at hg';exact ht hg'.2.1
theorem ak0 (ls:List dh):∀x,x∈ls->x.size<=vk ls:=by
 intro x hx
 induction ls with
 | nil=>cases hx
 | cons y ls ih =>
  rw[Hr];rcases ql.1 hx with rfl|hx
  ·omega
  ·have:=ih hx
   omega
theorem apa (ls:List dh) (q:Nat) (h:q<ls.length):Gi (ls.take (q+1))=Gi (ls.take q)++(ls[q]++Wnl):=by
 rw[Fb h,akh,ari]
theorem a5v (ls:List dh) (q:Nat) (h:q<ls.length):(Gi (ls.take q)).size+ls[q].size+1<=vk ls:=by
 have h1:vk ls=vk (ls.take (q+1))+vk (ls.drop (q+1)):=by rw[←Fj,Pj]
 have h2:=ah4 (ls.take (q+1));rw[apa ls q h,Lc,Lc] at h2;have:Wnl.size=1:=rfl;omega
theorem axf:(Tryz.prog.info? 5).map (fun i=>(i.zero,i.size,i.bytes))=some (some (.int .u8 0),1,1):=by kernel_rfl
theorem own_base {w:bf} {base n sz:Nat} {T:TypeId} {v:Value} {xs:List Value} (h:w.ownsRow base T sz v n xs):∀k,v.ownBlock=some k->base<=k:=fun k e=>by
 rcases h.2 with ⟨rfl,_⟩|⟨g,cap,cur,rfl,hb,_⟩
 ·cases e
 ·cases e
  exact hb
theorem axg {w w':bf} {base n sz:Nat} {T:TypeId} {v:Value} {xs:List Value} (h:w.ownsRow base T sz v n xs) (hb:Below w.heap.size w w'):w'.ownsRow base T sz v n xs:=by
 refine⟨h.1,?_⟩;rcases h.2 with h2|⟨g,cap,cur,rfl,hbb,hh,r⟩
 ·exact Or.inl h2
 ·exact Or.inr ⟨g,cap,cur,rfl,hbb,(hb.block g (Jk.1 hh).1).trans hh,r⟩
theorem Xz (s t:dh):Lib.strCells (s++t)=Lib.strCells s++Lib.strCells t:=by
 simp[Lib.strCells,ByteArray.data_append]
theorem a1c (l:List UInt8) (s:dh):(l.map (fun b=>((b.toNat:Nat):Int))).foldl (fun r n=>r.push (UInt8.ofNat n.toNat)) s=s++⟨l.toArray⟩:=by
 induction l generalizing s with
 | nil =>
  apply ByteArray.ext;simp[ByteArray.data_append]
 | cons b l ih =>
  rw[Ap,List.foldl_cons,ih];apply ByteArray.ext;simp[ByteArray.data_append]
theorem a1d (w:bf) (base n:Nat) (v:Value) (s:dh) (h:w.ownsRow base 5 1 v n (Lib.strCells s)):(convert 64 9 v).run Tryz.prog w=.ok (.string s) w:=by
 have hl:=h.1;rw[Lib.strCells_length,jr] at hl;rcases h.2 with ⟨rfl,hn⟩|⟨g,cap,cur,rfl,_,hg,_⟩
 ·rw[run_convert_bytes_string _ _ _ _ _ _ _ Tryz.underlying64 Tryz.underlying5 Tryz.underlying9]
  have hs:s=ByteArray.empty:=by
   apply ByteArray.ext;apply Array.eq_empty_of_size_eq_zero;show s.size=0;omega
  subst hs;rfl
 ·rw[run_convert_bytes_string _ _ _ _ _ _ _ Tryz.underlying64 Tryz.underlying5 Tryz.underlying9]
  have hcs:Lib.strCells s=(s.data.toList.map (fun b=>((b.toNat:Nat):Int))).map (Value.int .u8):=by
   unfold Lib.strCells;rw[List.map_map];rfl
  have hld:=run_loadCells_list (P:=Tryz.prog) (w:=w) ⟨g,0,none⟩ (Lib.strCells s) (fun j u hu=>h.cells (g:=g) rfl j u hu);rw[Lib.strCells_length,hl,hcs] at hld;rw[run_bytesToString w ⟨g,0,none⟩ n cap _ hld,a1c];congr 2
set_option maxRecDepth 20000 in
theorem anu (ks:List dw) (v:Value) (w:bf) (hv:iy 7 160 Dl 0 w v ks) (mb:Bool) (hmk:∀v w,iy 7 160 Dl 0 w v ks->Calls Tryz.prog 23 #[.agg #[v]] w (Ans (.bool mb) w)) (hp:mb=true->ks≠[]∧asr ks) :
  Calls Tryz.prog 10 #[.agg #[v]] w (Ans (.string (if mb=true then Gi (Ho ks) else ByteArray.empty)) w):=by
 obtain⟨a0,c0,rfl⟩:=hv.shape;have hA0:Below w.heap.size w (w.alloc (.cells #[.slice a0 ks.length c0] 24)):=(gy _ _).alloc (gq _) _;have HC:=hide (hmk _ _ (hv.stays Ei hA0));have HA0:=hide hA0;clear hmk hA0
 cases mb
 ·rw[ay (by simp)]
  go_enter Tryz.func10,Tryz.ntmps10;go_wp2_with fail;refine(uh HC).mono ?_;rintro e w1 ⟨rfl,hb1⟩;have HB:=hide ((uh HA0).trans (hb1.mono (uh HA0).size));clear hb1;go_wp2;go_ret;exact⟨rfl,uh HB⟩
 rw[gu rfl];obtain⟨hne,hpr⟩:=hp rfl;have HPR:=hide hpr
 have hlm:ks.length<=140737488355328:=by
  obtain⟨_,_,_,_,h,_⟩:=hv;exact h
 have HV:=hide hv;obtain⟨_,_,D6,_,_,hx⟩:=hv;simp only[qw] at D6;obtain⟨rfl,_,rfl⟩:=D6;obtain⟨b0,o0,_,rfl,bcn⟩:=hx 0 (Bg.2 hne);clear bcn;have HX:=hide hx;have asu:=hide hpr.all;have Bj:=hide (axe ks);have Ie:Hid (∀w1,Below (w.heap.size+1) (w.alloc (.cells #[.slice (some ⟨b0,o0,none⟩) ks.length c0] 24)) w1->Below w.heap.size w w1):=fun w1 h=>(uh HA0).trans (h.mono (Nat.le_succ _))
 generalize hTX:Gi (Ho ks)=TX at *;have bd4:=hide hTX;clear hp hpr hne hx hTX;go_enter Tryz.func10,Tryz.ntmps10;go_wp2_with fail;refine(uh HC).mono ?_;rintro e w1 ⟨rfl,hb1⟩;have hbx:=ajf hb1;have HB1:=hide hbx;have hz1:w.heap.size+1<=w1.heap.size:=by have:=hbx.size;simpa using this
 have HB2:=hide (hbx.alloc hz1 (.cells #[] 9));have Oj:=hide (jm.start (E:=ni) w1 (w.heap.size+1) hz1);have k1:w1.cell? ⟨w.heap.size,0,none⟩=some (.slice (some ⟨b0,o0,none⟩) ks.length c0):=(C9 (B:=0) hbx 0).trans rfl;have hz1':w.heap.size<w1.heap.size:=hz1;clear hb1 hbx;go_wp2
 go_loopg [3,28] ks.length (fun gh st ix wr=>∃(i:Nat),i<=ks.length∧gh=ks.length-i∧ix=.int .i64 i∧Hid (jm ni wr (w.heap.size+1) st (prior ks i))∧Hid (Below (w.heap.size+1) (w.alloc (.cells #[.slice (some ⟨b0,o0,none⟩) ks.length c0] 24)) wr))
 case atStart=>exact⟨0,jg _,by omega,rfl,Oj,HB2⟩
 case round =>
  obtain⟨i,hi,hg,rfl,HOW,Bl⟩:=hrel;have HG0:=hide hg;clear hg k1;have hws:w.heap.size+1<=wr.heap.size:=by have:=(uh Bl).size;simpa using this
  by_cases hlt0:i<ks.length
  ·obtain⟨b,o,cs,Fv,_,hb,hcs,hc,hR⟩:=uh HX i hlt0
   simp only[uo,Addr.mk.injEq] at Fv;obtain⟨rfl,rfl,_⟩:=Fv;have hbw:=uh Ie _ (uh Bl);have hc:∀j (hj:j<cs.length),wr.cell? ⟨b0,o0+i*7+j,none⟩=some cs[j]:=fun j hj=>by rw[hbw.cell (p:=⟨b0,_,none⟩) hb];exact hc j hj
   have hkm:=pz hlt0;have hcl:=(uh HPR).cls _ hkm;have hln:=(uh HPR).ln _ hkm;have hnm:=(uh HPR).nm _ hkm;have hlen:=(uh HPR).len _ hkm;have Og:=hide (ajg ks i hlt0);have hpl:=uh Bj i;have hall:=uh asu;have hz0:Ia ks ks[i]=Ia ks ks[i]:=rfl;obtain⟨kd,hkd⟩:∃kd,kd=ks[i]:=⟨_,rfl⟩;rw[←hkd] at hR hcl hln hnm hlen Og;clear hkm hkd hz0;obtain⟨nm,ins,ak,iq,eu,au,body⟩:=kd;obtain⟨f1,f2,f3,f4,f5,f6,rfl,hnl,q1,q2,q3,q4,q5,q6⟩:=hR;simp only at hnl q1 q2 q3 q4 q5 q6;obtain⟨b1,c1,rfl⟩:=q1.shape;obtain⟨b2,c2,rfl⟩:=q2.shape;obtain⟨b3,c3,rfl⟩:=q3.shape;obtain⟨b4,c4,rfl⟩:=q4.shape;obtain⟨b5,c5,rfl⟩:=q5.shape;obtain⟨b6,c6,rfl⟩:=q6.shape;have Uf:=hide q1;have HS2:=hide q2;have Vo:=hide q3;have Rl:=hide q4;have HS5:=hide q5;have HS6:=hide q6;have a0x:=hide hnm.2.1;have a0y:=hide hnm.2.2.1;have a0z:=hide hnm.2.2.2;have Qj:=hide hcl;have a00:=hide hln;obtain⟨cb,hcb⟩:∃cb,cb=wr.heap.size:=⟨_,rfl⟩;have hnz:=hnm.1;have hfew:=hcl.few;simp only at hnz hlen hfew;have y0:=hc 0 (by simp);have y1:=hc 1 (by simp);have y2:=hc 2 (by simp);have y3:=hc 3 (by simp);have y4:=hc 4 (by simp);have y5:=hc 5 (by simp);have y6:=hc 6 (by simp);simp only[jr,jh,ny,o8] at y0 y1 y2 y3 y4 y5 y6;have bfc:(i:Int)<(ks.length:Int):=by omega
   clear q1 q2 q3 q4 q5 q6 hc hcs hln hcl hnl hbw;generalize prior ks i=A0 at *
   have HL0:Hid (LI (w.heap.size+1) cb #[.string nm,.slice b1 ins.length c1,.slice b2 ak.length c2,.slice b3 iq.length c3,.slice b4 eu.length c4,.slice b5 au.length c5,.slice b6 body.length c6] (w.alloc (.cells #[.slice (some ⟨b0,o0,none⟩) ks.length c0] 24)) ((wr.alloc (.cells #[.string nm,.slice b1 ins.length c1,.slice b2 ak.length c2,.slice b3 iq.length c3,.slice b4 eu.length c4,.slice b5 au.length c5,.slice b6 body.length c6] 50)).alloc (.cells #[.string (⟨#[99,108,97,115,115,32]⟩++nm)] 9)) u3 (A0)):=by
    have hb8:=((gy wr.heap.size wr).alloc (gq _) (.cells #[.string nm,.slice b1 ins.length c1,.slice b2 ak.length c2,.slice b3 iq.length c3,.slice b4 eu.length c4,.slice b5 au.length c5,.slice b6 body.length c6] 50)).alloc (by simp) (.cells #[.string (⟨#[99,108,97,115,115,32]⟩++nm)] 9);refine hide ⟨(uh HOW).below hb8,?_,(uh Bl).trans (hb8.mono hws),jq hws hb8.size⟩;rw[hcb];exact(og wr #[.string nm,.slice b1 ins.length c1,.slice b2 ak.length c2,.slice b3 iq.length c3,.slice b4 eu.length c4,.slice b5 au.length c5,.slice b6 body.length c6] 50).below ((gy (wr.heap.size+1) _).alloc (by simp) _) (Ri _)
   have Hy:Hid (A0.length<=300000000):=by
    refine hide ?_;omega
   go_wp2_with (at_builtin;go_must (refine Au ni _ rfl _ _ rfl (w.heap.size+1) _ _ rfl (uh HL0).own (wr.heap.size+1) (⟨#[99,108,97,115,115,32]⟩++nm) rfl (fun j u hu=>by rw[zy _ _ _ _ (by simp)];simpa[ni] using hu) (by have h9:=uh Hy;show (_+1)*16<=_;omega) (uh HL0).size ?_));intro v2 w2 hown2 Kw;have HLa:=hide ((uh HL0).app hown2 Kw);clear hown2 Kw y0 y1 y2 y3 y4 y5 y6;obtain⟨A1,hA1⟩:∃A1,A1=A0++[⟨#[99,108,97,115,115,32]⟩++nm]:=⟨_,rfl⟩
   have HN1:Hid (A1.length+ins.length<=300000000):=by
    refine hide ?_;rw[hA1,je,Ob];omega
   rw[←hA1] at HLa;have HA1:=hide hA1;have HLn:=HLa;have k1:w2.cell? ⟨cb,1,none⟩=some (.slice b1 ins.length c1):=(uh HLn).blk.cell (v:=.slice b1 ins.length c1) rfl;have hzc:cb<w2.heap.size:=(uh HLn).blk.lt;rw[←hcb]
   have Uo:Hid (A1.length+ins.length+ak.length+iq.length+eu.length+au.length+body.length<=300000000):=by
    refine hide ?_;rw[hA1,je,Ob];omega
   clear hA1 Hy hcb HOW Bl hpl hall hnm;go_wp2
   go_loopg [3,41] ins.length (fun gh st ix wr=>∃(q:Nat),q<=ins.length∧gh=ins.length-q∧ix=.int .i64 q∧Hid (LI (w.heap.size+1) cb #[.string nm,.slice b1 ins.length c1,.slice b2 ak.length c2,.slice b3 iq.length c3,.slice b4 eu.length c4,.slice b5 au.length c5,.slice b6 body.length c6] (w.alloc (.cells #[.slice (some ⟨b0,o0,none⟩) ks.length c0] 24)) wr st (A1++(ins.take q).map (fun s:jw=>oh [Ik,s.name,Bq s.type]))))
   case atStart=>exact⟨0,jg _,by omega,rfl,(by rw[Np,Gf,Az];exact HLn)⟩
   case round =>
    obtain⟨q,hq,hg,rfl,HL⟩:=hrel;have HG:=hide hg;clear hg
    by_cases hlt:q<ins.length
    ·have hbw:=uh Ie _ (uh HL).old
     obtain⟨_,_,D6,_,_,hex⟩:=uh Uf;simp only[qw] at D6;obtain⟨rfl,_,rfl⟩:=D6;obtain⟨b,o,cs,rfl,_,hb,hcs,hc,hR⟩:=hex q hlt;have hc:∀j (hj:j<cs.length),wr.cell? ⟨b,o+q*2+j,none⟩=some cs[j]:=fun j hj=>by rw[hbw.cell (p:=⟨b,_,none⟩) hb];exact hc j hj
     obtain⟨rfl,hsn,hty⟩:=hR;have z0:=hc 0 (by simp);have z1:=hc 1 (by simp);simp only[jr,jh,ny,o8] at z0 z1;have Ku:(q:Int)<(ins.length:Int):=by omega
     have HT:=hide (map_take (fun s:jw=>oh [Ik,s.name,Bq s.type]) (A1) ins q hlt)
     have Hy:Hid ((A1++(ins.take q).map (fun s:jw=>oh [Ik,s.name,Bq s.type])).length<=300000000):=by
      refine hide ?_;rw[abq _ _ _ _ (by omega)];have:=uh HN1;omega
     have hmem:=pz hlt;clear hc hcs hex;generalize A1++(ins.take q).map (fun s:jw=>oh [Ik,s.name,Bq s.type])=pre at HL HT Hy;have HNS:=hide (uh a0x _ hmem)
     have HTX:Hid (oh [Ik,ins[q].name,Bq ins[q].type]=⟨#[105,110,32]⟩++ins[q].name++⟨#[32]⟩++Bq ins[q].type):=by
      refine hide ?_;rw[am6,bab];simp only[Cm];rfl
     have hzt:=ad3 ins[q].type;have HTY:=hide (ame ins[q].type);rw[uh HTX] at HT;generalize Bq ins[q].type=tx at *;generalize ins[q]=sl at *;obtain⟨sn,sty⟩:=sl;simp only at *;have ae6:=uh HNS;have q1:¬(9223372036854775807<3+sn.size):=by omega
     have q2:¬(9223372036854775807<3+sn.size+1):=by omega
     have q3:¬(9223372036854775807<3+sn.size+1+tx.size):=by omega
     have O4:Below wr.heap.size wr ((wr.alloc (.cells #[.string sn,.int .i64 sty] 54)).alloc (.cells #[.string (⟨#[105,110,32]⟩++sn++⟨#[32]⟩++tx)] 9)).drew:=(((gy wr.heap.size wr).alloc (gq _) (.cells #[.string sn,.int .i64 sty] 54)).alloc (by simp) (.cells #[.string (⟨#[105,110,32]⟩++sn++⟨#[32]⟩++tx)] 9)).drew;have Hz:=hide ((uh HL).on O4);have U7:Hid (jc ((wr.alloc (.cells #[.string sn,.int .i64 sty] 54)).alloc (.cells #[.string (⟨#[105,110,32]⟩++sn++⟨#[32]⟩++tx)] 9)).drew wr.heap.size 54 #[.string sn,.int .i64 sty]):=(og wr #[.string sn,.int .i64 sty] 54).below (((gy (wr.heap.size+1) _).alloc (by simp) _).drew) (Ri _);clear O4
     have k0:(wr.alloc (.cells #[.string sn,.int .i64 sty] 54)).drew.cell? ⟨wr.heap.size,0,none⟩=some (.string sn):=by
      show (wr.alloc (.cells #[.string sn,.int .i64 sty] 54)).cell? _=_;rw[zy _ _ _ _ rfl];rfl
     have k1:(wr.alloc (.cells #[.string sn,.int .i64 sty] 54)).drew.cell? ⟨wr.heap.size,1,none⟩=some (.int .i64 sty):=by
      show (wr.alloc (.cells #[.string sn,.int .i64 sty] 54)).cell? _=_;rw[zy _ _ _ _ rfl];rfl
     clear hmem hsn hty;go_wp2_with fail
     go_region_held3 (fun w'=>w'.cell? ⟨wr.heap.size,0,none⟩=some (.string sn)∧w'.cell? ⟨wr.heap.size,1,none⟩=some (.int .i64 sty)) (go_keep) (first|(go_at_call 24;refine(uh HTY _).mono ?_;rintro e wj ⟨rfl,rfl⟩)|(refine ab6 ni _ rfl _ _ rfl (w.heap.size+1) _ _ rfl (uh Hz).own (wr.heap.size+1) (⟨#[105,110,32]⟩++sn++⟨#[32]⟩++tx) rfl (fun j u hu=>by (show (World.alloc _ _).cell? _=_);rw[zy _ _ _ _ (by simp)];simpa[ni] using hu) (by have h9:=uh Hy;show (_+1)*16<=_;omega) (uh Hz).size ?_;intro v2 w2 hown2 Kw;have HL2:=hide ((uh Hz).app hown2 Kw);have ab4:=hide ((Kw.block wr.heap.size (uh U7).lt (fun e=>afa (uh Hz).own (uh U7) (by decide) e.symm)).trans (uh U7));have k0:w2.cell? ⟨wr.heap.size,0,none⟩=some (.string sn):=jc.cell (uh ab4) (v:=.string sn) rfl;have k1:w2.cell? ⟨wr.heap.size,1,none⟩=some (.int .i64 sty):=jc.cell (uh ab4) (v:=.int .i64 sty) rfl;clear hown2 Kw))
     go_wp2
     go_roundg (ins.length-(q+1))
     case measure=>have:=uh HG;omega
     case rel=>exact⟨q+1,by omega,rfl,by go_num,(by rw[uh HT];exact HL2)⟩
    ·have e:q=ins.length:=by omega
     have HLn:Hid (LI (w.heap.size+1) cb #[.string nm,.slice b1 ins.length c1,.slice b2 ak.length c2,.slice b3 iq.length c3,.slice b4 eu.length c4,.slice b5 au.length c5,.slice b6 body.length c6] (w.alloc (.cells #[.slice (some ⟨b0,o0,none⟩) ks.length c0] 24)) wr u3 (A1++ins.map (fun s:jw=>oh [Ik,s.name,Bq s.type]))):=by
      have h8:=uh HL;rw[e,Eb] at h8;exact h8
     clear e HL HG;obtain⟨A2,hA2⟩:∃A,A=A1++ins.map (fun s:jw=>oh [Ik,s.name,Bq s.type]):=⟨_,rfl⟩;rw[←hA2] at HLn;have HA2:=hide hA2
     have Wu:Hid (A2.length=A1.length+(ins.length)):=by
      refine hide ?_;rw[hA2,je,Ad]
      try omega
     clear hA2
     have Zr:Hid (A2.length+ak.length<=300000000):=by
      refine hide ?_;have h1:=uh Uo;have h2:=uh Wu;omega
     have k2:wr.cell? ⟨cb,2,none⟩=some (.slice b2 ak.length c2):=(uh HLn).blk.cell (v:=.slice b2 ak.length c2) rfl;have bfu:cb<wr.heap.size:=(uh HLn).blk.lt;go_wp2
     go_loopg [3,60] ak.length (fun gh st ix wr=>∃(q:Nat),q<=ak.length∧gh=ak.length-q∧ix=.int .i64 q∧Hid (LI (w.heap.size+1) cb #[.string nm,.slice b1 ins.length c1,.slice b2 ak.length c2,.slice b3 iq.length c3,.slice b4 eu.length c4,.slice b5 au.length c5,.slice b6 body.length c6] (w.alloc (.cells #[.slice (some ⟨b0,o0,none⟩) ks.length c0] 24)) wr st (A2++(ak.take q).map (fun s:jw=>oh [Ee,s.name,Bq s.type]))))
     case atStart=>exact⟨0,jg _,by omega,rfl,(by rw[Np,Gf,Az];exact HLn)⟩
     case round =>
      obtain⟨q,hq,hg,rfl,HL⟩:=hrel;have HG:=hide hg;clear hg
      by_cases hlt:q<ak.length
      ·have hbw:=uh Ie _ (uh HL).old
       obtain⟨_,_,D6,_,_,hex⟩:=uh HS2;simp only[qw] at D6;obtain⟨rfl,_,rfl⟩:=D6;obtain⟨b,o,cs,rfl,_,hb,hcs,hc,hR⟩:=hex q hlt;have hc:∀j (hj:j<cs.length),wr.cell? ⟨b,o+q*2+j,none⟩=some cs[j]:=fun j hj=>by rw[hbw.cell (p:=⟨b,_,none⟩) hb];exact hc j hj
       obtain⟨rfl,hsn,hty⟩:=hR;have z0:=hc 0 (by simp);have z1:=hc 1 (by simp);simp only[jr,jh,ny,o8] at z0 z1;have Ku:(q:Int)<(ak.length:Int):=by omega
       have HT:=hide (map_take (fun s:jw=>oh [Ee,s.name,Bq s.type]) (A2) ak q hlt)
       have Hy:Hid ((A2++(ak.take q).map (fun s:jw=>oh [Ee,s.name,Bq s.type])).length<=300000000):=by
        refine hide ?_;rw[abq _ _ _ _ (by omega)];have:=uh Zr;omega
       have hmem:=pz hlt;clear hc hcs hex;generalize A2++(ak.take q).map (fun s:jw=>oh [Ee,s.name,Bq s.type])=pre at HL HT Hy;have HNS:=hide (uh a0y _ hmem)
       have HTX:Hid (oh [Ee,ak[q].name,Bq ak[q].type]=⟨#[111,117,116,32]⟩++ak[q].name++⟨#[32]⟩++Bq ak[q].type):=by
        refine hide ?_;rw[am6,a5q];simp only[Cm];rfl
       have hzt:=ad3 ak[q].type;have HTY:=hide (ame ak[q].type);rw[uh HTX] at HT;generalize Bq ak[q].type=tx at *;generalize ak[q]=sl at *;obtain⟨sn,sty⟩:=sl;simp only at *;have ae6:=uh HNS;have q1:¬(9223372036854775807<4+sn.size):=by omega
       have q2:¬(9223372036854775807<4+sn.size+1):=by omega
       have q3:¬(9223372036854775807<4+sn.size+1+tx.size):=by omega
       have O4:Below wr.heap.size wr ((wr.alloc (.cells #[.string sn,.int .i64 sty] 54)).alloc (.cells #[.string (⟨#[111,117,116,32]⟩++sn++⟨#[32]⟩++tx)] 9)).drew:=(((gy wr.heap.size wr).alloc (gq _) (.cells #[.string sn,.int .i64 sty] 54)).alloc (by simp) (.cells #[.string (⟨#[111,117,116,32]⟩++sn++⟨#[32]⟩++tx)] 9)).drew;have Hz:=hide ((uh HL).on O4);have U7:Hid (jc ((wr.alloc (.cells #[.string sn,.int .i64 sty] 54)).alloc (.cells #[.string (⟨#[111,117,116,32]⟩++sn++⟨#[32]⟩++tx)] 9)).drew wr.heap.size 54 #[.string sn,.int .i64 sty]):=(og wr #[.string sn,.int .i64 sty] 54).below (((gy (wr.heap.size+1) _).alloc (by simp) _).drew) (Ri _);clear O4
       have k0:(wr.alloc (.cells #[.string sn,.int .i64 sty] 54)).drew.cell? ⟨wr.heap.size,0,none⟩=some (.string sn):=by
        show (wr.alloc (.cells #[.string sn,.int .i64 sty] 54)).cell? _=_;rw[zy _ _ _ _ rfl];rfl
       have k1:(wr.alloc (.cells #[.string sn,.int .i64 sty] 54)).drew.cell? ⟨wr.heap.size,1,none⟩=some (.int .i64 sty):=by
        show (wr.alloc (.cells #[.string sn,.int .i64 sty] 54)).cell? _=_;rw[zy _ _ _ _ rfl];rfl
       clear hmem hsn hty;go_wp2_with fail
       go_region_held3 (fun w'=>w'.cell? ⟨wr.heap.size,0,none⟩=some (.string sn)∧w'.cell? ⟨wr.heap.size,1,none⟩=some (.int .i64 sty)) (go_keep) (first|(go_at_call 24;refine(uh HTY _).mono ?_;rintro e wj ⟨rfl,rfl⟩)|(refine ab6 ni _ rfl _ _ rfl (w.heap.size+1) _ _ rfl (uh Hz).own (wr.heap.size+1) (⟨#[111,117,116,32]⟩++sn++⟨#[32]⟩++tx) rfl (fun j u hu=>by (show (World.alloc _ _).cell? _=_);rw[zy _ _ _ _ (by simp)];simpa[ni] using hu) (by have h9:=uh Hy;show (_+1)*16<=_;omega) (uh Hz).size ?_;intro v2 w2 hown2 Kw;have HL2:=hide ((uh Hz).app hown2 Kw);have ab4:=hide ((Kw.block wr.heap.size (uh U7).lt (fun e=>afa (uh Hz).own (uh U7) (by decide) e.symm)).trans (uh U7));have k0:w2.cell? ⟨wr.heap.size,0,none⟩=some (.string sn):=jc.cell (uh ab4) (v:=.string sn) rfl;have k1:w2.cell? ⟨wr.heap.size,1,none⟩=some (.int .i64 sty):=jc.cell (uh ab4) (v:=.int .i64 sty) rfl;clear hown2 Kw))
       go_wp2
       go_roundg (ak.length-(q+1))
       case measure=>have:=uh HG;omega
       case rel=>exact⟨q+1,by omega,rfl,by go_num,(by rw[uh HT];exact HL2)⟩
      ·have e:q=ak.length:=by omega
       have HLn:Hid (LI (w.heap.size+1) cb #[.string nm,.slice b1 ins.length c1,.slice b2 ak.length c2,.slice b3 iq.length c3,.slice b4 eu.length c4,.slice b5 au.length c5,.slice b6 body.length c6] (w.alloc (.cells #[.slice (some ⟨b0,o0,none⟩) ks.length c0] 24)) wr u3 (A2++ak.map (fun s:jw=>oh [Ee,s.name,Bq s.type]))):=by
        have h8:=uh HL;rw[e,Eb] at h8;exact h8
       clear e HL HG;obtain⟨A3,hA3⟩:∃A,A=A2++ak.map (fun s:jw=>oh [Ee,s.name,Bq s.type]):=⟨_,rfl⟩;rw[←hA3] at HLn;have HA3:=hide hA3
       have HQ3:Hid (A3.length=A1.length+(ins.length+ak.length)):=by
        refine hide ?_;rw[hA3,je,Ad,uh Wu]
        try omega
       clear hA3
       have HN3:Hid (A3.length+iq.length<=300000000):=by
        refine hide ?_;have h1:=uh Uo;have h2:=uh HQ3;omega
       have k3:wr.cell? ⟨cb,3,none⟩=some (.slice b3 iq.length c3):=(uh HLn).blk.cell (v:=.slice b3 iq.length c3) rfl;have bfv:cb<wr.heap.size:=(uh HLn).blk.lt;go_wp2
       go_loopg [3,79] iq.length (fun gh st ix wr=>∃(q:Nat),q<=iq.length∧gh=iq.length-q∧ix=.int .i64 q∧Hid (LI (w.heap.size+1) cb #[.string nm,.slice b1 ins.length c1,.slice b2 ak.length c2,.slice b3 iq.length c3,.slice b4 eu.length c4,.slice b5 au.length c5,.slice b6 body.length c6] (w.alloc (.cells #[.slice (some ⟨b0,o0,none⟩) ks.length c0] 24)) wr st (A3++(iq.take q).map (fun x:dh=>oh [Eo,x]))))
       case atStart=>exact⟨0,jg _,by omega,rfl,(by rw[Np,Gf,Az];exact HLn)⟩
       case round =>
        obtain⟨q,hq,hg,rfl,HL⟩:=hrel;have HG:=hide hg;clear hg
        by_cases hlt:q<iq.length
        ·have hbw:=uh Ie _ (uh HL).old
         obtain⟨_,_,D6,_,_,hex⟩:=uh Vo;simp only[qw] at D6;obtain⟨rfl,_,rfl⟩:=D6;obtain⟨b,o,cs,rfl,_,hb,hcs,hc,hR⟩:=hex q hlt;have hc:∀j (hj:j<cs.length),wr.cell? ⟨b,o+q*1+j,none⟩=some cs[j]:=fun j hj=>by rw[hbw.cell (p:=⟨b,_,none⟩) hb];exact hc j hj
         obtain⟨rfl,hsn⟩:=hR;have z0:=hc 0 (by simp);simp only[jr,jh,ny,o8] at z0;have Ku:(q:Int)<(iq.length:Int):=by omega
         have HT:=hide (map_take (fun x:dh=>oh [Eo,x]) (A3) iq q hlt)
         have Hy:Hid ((A3++(iq.take q).map (fun x:dh=>oh [Eo,x])).length<=300000000):=by
          refine hide ?_;rw[abq _ _ _ _ (by omega)];have:=uh HN3;omega
         have hmem:=pz hlt;clear hc hcs hex;generalize A3++(iq.take q).map (fun x:dh=>oh [Eo,x])=pre at HL HT Hy;have HNS:=hide (uh a0z _ hmem)
         have HTX:Hid (oh [Eo,iq[q]]=⟨#[108,111,99,32]⟩++iq[q]):=by
          refine hide ?_;rw[acy,a5s];simp only[Cm]
         rw[uh HTX] at HT;generalize iq[q]=x at *;have ae6:=uh HNS;have Hz:=hide ((uh HL).on ((gy wr.heap.size wr).alloc (gq _) (.cells #[.string (⟨#[108,111,99,32]⟩++x)] 9)));clear hmem hsn;go_wp2_with (at_builtin;go_must (refine Au ni _ rfl _ _ rfl (w.heap.size+1) _ _ rfl (uh Hz).own wr.heap.size (⟨#[108,111,99,32]⟩++x) rfl (fun j u hu=>by rw[zy _ _ _ _ rfl];simpa[ni] using hu) (by have h9:=uh Hy;show (_+1)*16<=_;omega) (uh Hz).size ?_));intro v2 w2 hown2 Kw;have HL2:=hide ((uh Hz).app hown2 Kw);clear hown2 Kw;go_wp2
         go_roundg (iq.length-(q+1))
         case measure=>have:=uh HG;omega
         case rel=>exact⟨q+1,by omega,rfl,by go_num,(by rw[uh HT];exact HL2)⟩
        ·have e:q=iq.length:=by omega
         have HLn:Hid (LI (w.heap.size+1) cb #[.string nm,.slice b1 ins.length c1,.slice b2 ak.length c2,.slice b3 iq.length c3,.slice b4 eu.length c4,.slice b5 au.length c5,.slice b6 body.length c6] (w.alloc (.cells #[.slice (some ⟨b0,o0,none⟩) ks.length c0] 24)) wr u3 (A3++iq.map (fun x:dh=>oh [Eo,x]))):=by
          have h8:=uh HL;rw[e,Eb] at h8;exact h8
         clear e HL HG;obtain⟨A4,hA4⟩:∃A,A=A3++iq.map (fun x:dh=>oh [Eo,x]):=⟨_,rfl⟩;rw[←hA4] at HLn;have HA4:=hide hA4
         have HQ4:Hid (A4.length=A1.length+(ins.length+ak.length+iq.length)):=by
          refine hide ?_;rw[hA4,je,Ad,uh HQ3]
          try omega
         clear hA4
         have HN4:Hid (A4.length+eu.length<=300000000):=by
          refine hide ?_;have h1:=uh Uo;have h2:=uh HQ4;omega
         have k4:wr.cell? ⟨cb,4,none⟩=some (.slice b4 eu.length c4):=(uh HLn).blk.cell (v:=.slice b4 eu.length c4) rfl;have bfw:cb<wr.heap.size:=(uh HLn).blk.lt;go_wp2
         go_loopg [3,92] eu.length (fun gh st ix wr=>∃(q:Nat),q<=eu.length∧gh=eu.length-q∧ix=.int .i64 q∧Hid (LI (w.heap.size+1) cb #[.string nm,.slice b1 ins.length c1,.slice b2 ak.length c2,.slice b3 iq.length c3,.slice b4 eu.length c4,.slice b5 au.length c5,.slice b6 body.length c6] (w.alloc (.cells #[.slice (some ⟨b0,o0,none⟩) ks.length c0] 24)) wr st (A4++(eu.take q).map (fun v:Int=>oh [Ep,qm v]))))
         case atStart=>exact⟨0,jg _,by omega,rfl,(by rw[Np,Gf,Az];exact HLn)⟩
         case round =>
          obtain⟨q,hq,hg,rfl,HL⟩:=hrel;have HG:=hide hg;clear hg
          by_cases hlt:q<eu.length
          ·have hbw:=uh Ie _ (uh HL).old
           obtain⟨_,_,D6,_,_,hex⟩:=uh Rl;simp only[qw] at D6;obtain⟨rfl,_,rfl⟩:=D6;obtain⟨b,o,cs,rfl,_,hb,hcs,hc,hR⟩:=hex q hlt;have hc:∀j (hj:j<cs.length),wr.cell? ⟨b,o+q*1+j,none⟩=some cs[j]:=fun j hj=>by rw[hbw.cell (p:=⟨b,_,none⟩) hb];exact hc j hj
           obtain⟨rfl,hsn⟩:=hR;have z0:=hc 0 (by simp);simp only[jr,jh,ny,o8] at z0;have Ku:(q:Int)<(eu.length:Int):=by omega
           have HT:=hide (map_take (fun v:Int=>oh [Ep,qm v]) (A4) eu q hlt)
           have Hy:Hid ((A4++(eu.take q).map (fun v:Int=>oh [Ep,qm v])).length<=300000000):=by
            refine hide ?_;rw[abq _ _ _ _ (by omega)];have:=uh HN4;omega
           have hmem:=pz hlt;clear hc hcs hex;generalize A4++(eu.take q).map (fun v:Int=>oh [Ep,qm v])=pre at HL HT Hy;have hv32:=(uh Qj).eu _ hmem
           have HTX:Hid (oh [Ep,qm eu[q]]=⟨#[109,101,109,32]⟩++qm eu[q]):=by
            refine hide ?_;rw[acy,a5t];simp only[Cm]
           rw[uh HTX] at HT;have HDC:=hide (ab5 eu[q] hv32 wr);have hdz:=Qo eu[q] hv32;generalize qm eu[q]=dv at *;generalize eu[q]=x at *;clear hmem hsn hv32;go_wp2_with fail;refine(uh HDC).mono ?_;rintro e w9 ⟨rfl,yu⟩;have Hz:=hide ((uh HL).on (yu.alloc yu.size (.cells #[.string (⟨#[109,101,109,32]⟩++dv)] 9)));clear yu;go_wp2_with (at_builtin;go_must (refine Au ni _ rfl _ _ rfl (w.heap.size+1) _ _ rfl (uh Hz).own w9.heap.size (⟨#[109,101,109,32]⟩++dv) rfl (fun j u hu=>by rw[zy _ _ _ _ rfl];simpa[ni] using hu) (by have h9:=uh Hy;show (_+1)*16<=_;omega) (uh Hz).size ?_));intro v2 w2 hown2 Kw;have HL2:=hide ((uh Hz).app hown2 Kw);clear hown2 Kw;go_wp2
           go_roundg (eu.length-(q+1))
           case measure=>have:=uh HG;omega
           case rel=>exact⟨q+1,by omega,rfl,by go_num,(by rw[uh HT];exact HL2)⟩
          ·have e:q=eu.length:=by omega
           have HLn:Hid (LI (w.heap.size+1) cb #[.string nm,.slice b1 ins.length c1,.slice b2 ak.length c2,.slice b3 iq.length c3,.slice b4 eu.length c4,.slice b5 au.length c5,.slice b6 body.length c6] (w.alloc (.cells #[.slice (some ⟨b0,o0,none⟩) ks.length c0] 24)) wr u3 (A4++eu.map (fun v:Int=>oh [Ep,qm v]))):=by
            have h8:=uh HL;rw[e,Eb] at h8;exact h8
           clear e HL HG;obtain⟨A5,hA5⟩:∃A,A=A4++eu.map (fun v:Int=>oh [Ep,qm v]):=⟨_,rfl⟩;rw[←hA5] at HLn;have HA5:=hide hA5
           have HQ5:Hid (A5.length=A1.length+(ins.length+ak.length+iq.length+eu.length)):=by
            refine hide ?_;rw[hA5,je,Ad,uh HQ4]
            try omega
           clear hA5
           have HN5:Hid (A5.length+au.length<=300000000):=by
            refine hide ?_;have h1:=uh Uo;have h2:=uh HQ5;omega
           have k5:wr.cell? ⟨cb,5,none⟩=some (.slice b5 au.length c5):=(uh HLn).blk.cell (v:=.slice b5 au.length c5) rfl;have bfx:cb<wr.heap.size:=(uh HLn).blk.lt;go_wp2
           go_loopg [3,106] au.length (fun gh st ix wr=>∃(q:Nat),q<=au.length∧gh=au.length-q∧ix=.int .i64 q∧Hid (LI (w.heap.size+1) cb #[.string nm,.slice b1 ins.length c1,.slice b2 ak.length c2,.slice b3 iq.length c3,.slice b4 eu.length c4,.slice b5 au.length c5,.slice b6 body.length c6] (w.alloc (.cells #[.slice (some ⟨b0,o0,none⟩) ks.length c0] 24)) wr st (A5++(au.take q).map (fun g:Int=>oh [Es,Lp ks g]))))
           case atStart=>exact⟨0,jg _,by omega,rfl,(by rw[Np,Gf,Az];exact HLn)⟩
           case round =>
            obtain⟨q,hq,hg,rfl,HL⟩:=hrel;have HG:=hide hg;clear hg
            by_cases hlt:q<au.length
            ·have hbw:=uh Ie _ (uh HL).old
             obtain⟨_,_,D6,_,_,hex⟩:=uh HS5;simp only[qw] at D6;obtain⟨rfl,_,rfl⟩:=D6;obtain⟨b,o,cs,rfl,_,hb,hcs,hc,hR⟩:=hex q hlt;have hc:∀j (hj:j<cs.length),wr.cell? ⟨b,o+q*1+j,none⟩=some cs[j]:=fun j hj=>by rw[hbw.cell (p:=⟨b,_,none⟩) hb];exact hc j hj
             obtain⟨rfl,hsn⟩:=hR;have z0:=hc 0 (by simp);simp only[jr,jh,ny,o8] at z0;have Ku:(q:Int)<(au.length:Int):=by omega
             have HT:=hide (map_take (fun g:Int=>oh [Es,Lp ks g]) (A5) au q hlt)
             have Hy:Hid ((A5++(au.take q).map (fun g:Int=>oh [Es,Lp ks g])).length<=300000000):=by
              refine hide ?_;rw[abq _ _ _ _ (by omega)];have:=uh HN5;omega
             have hmem:=pz hlt;clear hc hcs hex;generalize A5++(au.take q).map (fun g:Int=>oh [Es,Lp ks g])=pre at HL HT Hy;obtain⟨hg0,hg1⟩:=(uh Qj).ins _ hmem;have hgn:=(uh Qj).nm _ hmem;obtain⟨gi,hgi⟩:=H8 hg0;have hgk:gi<ks.length:=by omega
             have ak2:Lp ks au[q]=ks[gi].name:=by
              unfold Lp;rw[hgi];show (match ks[gi]? with|some k=>k.name|none=>ByteArray.empty)=_
              rw[jy hgk]
             have HTX:Hid (oh [Es,Lp ks au[q]]=⟨#[117,115,101,32]⟩++ks[gi].name):=by
              refine hide ?_;rw[acy,a5u,ak2];simp only[Cm]
             rw[uh HTX] at HT;rw[ak2] at hgn;obtain⟨gb,go,gcs,aod,_,hgb,a01,hgc,hgR⟩:=uh HX gi hgk;simp only[uo,Addr.mk.injEq] at aod;obtain⟨rfl,rfl,_⟩:=aod
             have g0:wr.cell? ⟨b0,o0+gi*7,none⟩=some (.string ks[gi].name):=by
              rw[hbw.cell (p:=⟨b0,_,none⟩) hgb];obtain⟨_,_,_,_,_,_,rfl,_⟩:=hgR;exact hgc 0 (by simp)
             have km:wr.cell? ⟨w.heap.size,0,none⟩=some (.slice (some ⟨b0,o0,none⟩) ks.length c0):=(C9 (B:=0) (uh HL).old 0).trans rfl;have bd3:(gi:Int)<(ks.length:Int):=by omega
             rw[hgi] at z0;generalize ks[gi].name=x at *;have Hz:=hide ((uh HL).on ((gy wr.heap.size wr).alloc (gq _) (.cells #[.string (⟨#[117,115,101,32]⟩++x)] 9)));clear hmem hsn hg0 hg1 hgi ak2 a01 hgc hgR;go_wp2_with (at_builtin;go_must (refine Au ni _ rfl _ _ rfl (w.heap.size+1) _ _ rfl (uh Hz).own wr.heap.size (⟨#[117,115,101,32]⟩++x) rfl (fun j u hu=>by rw[zy _ _ _ _ rfl];simpa[ni] using hu) (by have h9:=uh Hy;show (_+1)*16<=_;omega) (uh Hz).size ?_));intro v2 w2 hown2 Kw;have HL2:=hide ((uh Hz).app hown2 Kw);clear hown2 Kw;go_wp2
             go_roundg (au.length-(q+1))
             case measure=>have:=uh HG;omega
             case rel=>exact⟨q+1,by omega,rfl,by go_num,(by rw[uh HT];exact HL2)⟩
            ·have e:q=au.length:=by omega
             have HLn:Hid (LI (w.heap.size+1) cb #[.string nm,.slice b1 ins.length c1,.slice b2 ak.length c2,.slice b3 iq.length c3,.slice b4 eu.length c4,.slice b5 au.length c5,.slice b6 body.length c6] (w.alloc (.cells #[.slice (some ⟨b0,o0,none⟩) ks.length c0] 24)) wr u3 (A5++au.map (fun g:Int=>oh [Es,Lp ks g]))):=by
              have h8:=uh HL;rw[e,Eb] at h8;exact h8
             clear e HL HG;obtain⟨A6,hA6⟩:∃A,A=A5++au.map (fun g:Int=>oh [Es,Lp ks g]):=⟨_,rfl⟩;rw[←hA6] at HLn;have HA6:=hide hA6
             have HQ6:Hid (A6.length=A1.length+(ins.length+ak.length+iq.length+eu.length+au.length)):=by
              refine hide ?_;rw[hA6,je,Ad,uh HQ5]
              try omega
             clear hA6
             have HN6:Hid (A6.length+body.length<=300000000):=by
              refine hide ?_;have h1:=uh Uo;have h2:=uh HQ6;omega
             have k6:wr.cell? ⟨cb,6,none⟩=some (.slice b6 body.length c6):=(uh HLn).blk.cell (v:=.slice b6 body.length c6) rfl;have bfy:cb<wr.heap.size:=(uh HLn).blk.lt;go_wp2
             go_loopg [3,124] body.length (fun gh st ix wr=>∃(q:Nat),q<=body.length∧gh=body.length-q∧ix=.int .i64 q∧Hid (LI (w.heap.size+1) cb #[.string nm,.slice b1 ins.length c1,.slice b2 ak.length c2,.slice b3 iq.length c3,.slice b4 eu.length c4,.slice b5 au.length c5,.slice b6 body.length c6] (w.alloc (.cells #[.slice (some ⟨b0,o0,none⟩) ks.length c0] 24)) wr st (A6++(body.take q).map (fun s:lu=>oh (xu s)))))
             case atStart=>exact⟨0,jg _,by omega,rfl,(by rw[Np,Gf,Az];exact HLn)⟩
             case round =>
              obtain⟨q,hq,hg,rfl,HL⟩:=hrel;have HG:=hide hg;clear hg
              by_cases hlt:q<body.length
              ·have hbw:=uh Ie _ (uh HL).old
               obtain⟨_,_,D6,_,_,hex⟩:=uh HS6;simp only[qw] at D6;obtain⟨rfl,_,rfl⟩:=D6;obtain⟨b,o,cs,rfl,_,hb,hcs,hc,hR⟩:=hex q hlt;have hc:∀j (hj:j<cs.length),wr.cell? ⟨b,o+q*6+j,none⟩=some cs[j]:=fun j hj=>by rw[hbw.cell (p:=⟨b,_,none⟩) hb];exact hc j hj
               obtain⟨s1,s2,s3,rfl,hsn,hk1,hk2,g1,g2,g3⟩:=hR;have z0:=hc 0 (by simp);have z1:=hc 1 (by simp);have z2:=hc 2 (by simp);have z3:=hc 3 (by simp);have z4:=hc 4 (by simp);have z5:=hc 5 (by simp);simp only[jr,jh,ny,o8] at z0 z1 z2 z3 z4 z5;have Ku:(q:Int)<(body.length:Int):=by omega
               have HT:=hide (map_take (fun s:lu=>oh (xu s)) (A6) body q hlt)
               have Hy:Hid ((A6++(body.take q).map (fun s:lu=>oh (xu s))).length<=300000000):=by
                refine hide ?_;rw[abq _ _ _ _ (by omega)];have:=uh HN6;omega
               have hmem:=pz hlt;clear hc hcs hex;generalize A6++(body.take q).map (fun s:lu=>oh (xu s))=pre at HL HT Hy;have ak3:=uh a00 _ hmem;have HLQ:=hide (axh body[q] s1 s2 s3 (wr.alloc (.cells #[.int .i64 body[q].kind,.string body[q].name,.int .i64 body[q].at_,s1,s2,s3] 60)) ak3 ((g1.stays zo hbw).stays zo ((gy _ _).alloc (gq _) _)) ((g2.stays Ag hbw).stays Ag ((gy _ _).alloc (gq _) _)) ((g3.stays I9 hbw).stays I9 ((gy _ _).alloc (gq _) _)));have P1:=hide ((gy wr.heap.size wr).alloc (gq _) (.cells #[.int .i64 body[q].kind,.string body[q].name,.int .i64 body[q].at_,s1,s2,s3] 60));generalize oh (xu body[q])=ln at *;generalize body[q]=st at *;obtain⟨oa,oc,rfl⟩:=g1.shape;obtain⟨ca,cc,rfl⟩:=g2.shape;obtain⟨aa,ac,rfl⟩:=g3.shape;obtain⟨kd,snm,at0,bcm,code,args⟩:=st;simp only at *;clear hmem ak3 g1 g2 g3 hk1 hk2 hsn;go_wp2_with fail;refine(uh HLQ).mono ?_;rintro e w9 ⟨rfl,yu⟩;have Q1:Hid (Below wr.heap.size wr w9):=(uh P1).trans (yu.mono (uh P1).size);have Hz:=hide ((uh HL).on ((uh Q1).alloc (uh Q1).size (.cells #[.string ln] 9)));clear yu;go_wp2_with (at_builtin;go_must (refine Au ni _ rfl _ _ rfl (w.heap.size+1) _ _ rfl (uh Hz).own w9.heap.size ln rfl (fun j u hu=>by rw[zy _ _ _ _ rfl];simpa[ni] using hu) (by have h9:=uh Hy;show (_+1)*16<=_;omega) (uh Hz).size ?_));intro v2 w2 hown2 Kw;have HL2:=hide ((uh Hz).app hown2 Kw);clear hown2 Kw;go_wp2
               go_roundg (body.length-(q+1))
               case measure=>have:=uh HG;omega
               case rel=>exact⟨q+1,by omega,rfl,by go_num,(by rw[uh HT];exact HL2)⟩
              ·have e:q=body.length:=by omega
               have HLn:Hid (LI (w.heap.size+1) cb #[.string nm,.slice b1 ins.length c1,.slice b2 ak.length c2,.slice b3 iq.length c3,.slice b4 eu.length c4,.slice b5 au.length c5,.slice b6 body.length c6] (w.alloc (.cells #[.slice (some ⟨b0,o0,none⟩) ks.length c0] 24)) wr u3 (A6++body.map (fun s:lu=>oh (xu s)))):=by
                have h8:=uh HL;rw[e,Eb] at h8;exact h8
               clear e HL HG;obtain⟨A7,hA7⟩:∃A,A=A6++body.map (fun s:lu=>oh (xu s)):=⟨_,rfl⟩;rw[←hA7] at HLn;have HA7:=hide hA7
               have HQ7:Hid (A7.length=A1.length+(ins.length+ak.length+iq.length+eu.length+au.length+body.length)):=by
                refine hide ?_;rw[hA7,je,Ad,uh HQ6]
                try omega
               clear hA7;have Hz:=hide ((uh HLn).on ((gy wr.heap.size wr).alloc (gq _) (.cells #[.string ⟨#[101,110,100,99,108,97,115,115]⟩] 9)))
               have Hy:Hid (A7.length<=300000000):=by
                refine hide ?_;have h1:=uh Uo;have h2:=uh HQ7;omega
               go_wp2_with (at_builtin;go_must (refine Au ni _ rfl _ _ rfl (w.heap.size+1) _ _ rfl (uh Hz).own wr.heap.size ⟨#[101,110,100,99,108,97,115,115]⟩ rfl (fun j u hu=>by rw[zy _ _ _ _ rfl];simpa[ni] using hu) (by have h9:=uh Hy;show (_+1)*16<=_;omega) (uh Hz).size ?_));intro v2 w2 hown2 Kw;have HL2:=hide ((uh Hz).app hown2 Kw);clear hown2 Kw
               have qc:Hid (A7++[⟨#[101,110,100,99,108,97,115,115]⟩]=prior ks (i+1)):=by
                refine hide ?_;rw[uh Og,uh HA7,uh HA6,uh HA5,uh HA4,uh HA3,uh HA2,uh HA1];unfold Ia;rw[acy,ag9,a5r];simp only[Gt,Fe,Gu,Cm];rfl
               have HO9:Hid (jm ni w2 (w.heap.size+1) v2 (prior ks (i+1))):=by
                have h8:=(uh HL2).own;rw[uh qc] at h8;exact h8
               have W9:=hide (uh HL2).old;clear HL2 qc;go_wp2
               go_roundg (ks.length-(i+1))
               case measure=>have:=uh HG0;omega
               case rel=>exact⟨i+1,by omega,rfl,by go_num,HO9,W9⟩
  ·have e:i=ks.length:=by omega
   have Va:Hid (jm ni wr (w.heap.size+1) u3 (Ho ks)):=by
    have h8:=uh HOW;rw[e] at h8;unfold prior at h8;rw[Eb] at h8;exact h8
   have a03:=hide (ak0 (Ho ks));have hall:=uh asu;have bfd:=abp (Ho ks)
   have bd5:Hid (Gi ((Ho ks).take (Ho ks).length)=TX):=by
    refine hide ?_;rw[Eb];exact uh bd4
   have HTK:=hide (apa (Ho ks));have HTZ:=hide (a5v (Ho ks));clear e HOW HX HPR Bj HV;generalize Ho ks=LL at *;have O4:=(gy wr.heap.size wr).alloc (gq _) (.cells #[] 5);have Ue:=hide ((uh Va).below O4);have bd6:=hide ((uh Bl).trans (O4.mono hws));have HR1:Hid ((wr.alloc (.cells #[] 5)).ownsRow (w.heap.size+1) 5 1 (.slice (some ⟨wr.heap.size,0,none⟩) 0 0) 0 (Lib.strCells ByteArray.empty)):=⟨rfl,Or.inr ⟨_,_,#[],rfl,hws,Deep.blk_alloc_new _ _,gq _,jg _,by simp,by simp[Lib.strCells]⟩⟩;obtain⟨la,lc,hu3⟩:=(uh Va).slice;subst hu3;obtain⟨iB,hiB,hB0,hB1,hB2⟩:=info_parts axf;have HIB:=hide (And.intro hiB (And.intro hB0 (And.intro hB1 hB2)));clear O4 hiB hB0 hB1 hB2;go_wp2
   go_loopg [18,141] LL.length (fun gh ov ix wr=>∃(q:Nat),q<=LL.length∧gh=LL.length-q∧ix=.int .i64 q∧Hid (wr.ownsRow (w.heap.size+1) 5 1 ov (Gi (LL.take q)).size (Lib.strCells (Gi (LL.take q))))∧Hid (jm ni wr (w.heap.size+1) (.slice la LL.length lc) LL)∧Hid (Below (w.heap.size+1) (w.alloc (.cells #[.slice (some ⟨b0,o0,none⟩) ks.length c0] 24)) wr))
   case atStart=>exact⟨0,jg _,by omega,rfl,HR1,Ue,bd6⟩
   case round =>
    obtain⟨q,hq,hg,rfl,HR,HO,HB⟩:=hrel;have HG:=hide hg;clear hg;have hws2:w.heap.size+1<=wr.heap.size:=by have:=(uh HB).size;simpa using this
    by_cases hlt:q<LL.length
    ·have hsl:=(uh HO).at (R:=wz) (fun x hx=>⟨rfl,by have:=uh a03 x hx;unfold Len;omega⟩) (by show _*16<=_;omega)
     obtain⟨_,_,D6,_,_,hex⟩:=hsl;simp only[qw] at D6;obtain⟨rfl,_,rfl⟩:=D6;obtain⟨b,o,cs,rfl,_,hb,hcs,hc,⟨rfl,_⟩⟩:=hex q hlt
     have z0:wr.cell? ⟨b,o+q,none⟩=some (.string LL[q]):=by
      have h0:=hc 0 (by simp);have e1:ni.sz=1:=rfl;rw[e1,jr,jh] at h0;exact h0
     have Ku:(q:Int)<(LL.length:Int):=by omega
     have HT:=hide (uh HTK q hlt);have hz:=uh HTZ q hlt;obtain⟨iB1,iB2,iB3,iB4⟩:=uh HIB;have HII:=hide (And.intro iB1 (And.intro iB2 (And.intro iB3 iB4)));clear hex hc hcs iB1 iB2 iB3 iB4;generalize Gi (LL.take q)=tq at *;generalize LL[q]=ln at *;go_wp2_with (at_builtin;go_must (refine Lib.wpList_append_own_string _ rfl _ _ 64 9 rfl (w.heap.size+1) 5 iB Tryz.underlying64 Tryz.underlying9 (uh HII).1 (uh HII).2.1 (uh HII).2.2.1 (uh HII).2.2.2 _ _ _ rfl (uh HR) ln rfl (by unfold maxLen;omega) (by omega) hws2 ?_));intro v7 w7 hr7 hg7 _;have HR7:=hide (hr7);have bae:=arn (uh HO) (uh HR) (by decide);have Xh:=hide (ao9 (uh HO) hg7 bae);have Zp:=hide ((uh HB).grown hg7 hws2 (fun k e=>(own_base (uh HR) k e)));have bd7:w.heap.size+1<=w7.heap.size:=jq hws2 hg7.size;have O4:=(gy w7.heap.size w7).alloc (gq _) (.cells #[.int .u8 10] 5);have HR8:=hide (axg (uh HR7) O4);have HO8:=hide ((uh Xh).below O4);have HB8:=hide ((uh Zp).trans (O4.mono bd7));clear hr7 hg7 bae O4;go_wp2_with (at_builtin;go_must (refine wpList_append_own _ rfl _ _ 64 rfl (w.heap.size+1) 5 iB (.int .u8 0) 1 1 Tryz.underlying64 (uh HII).1 (uh HII).2.1 (uh HII).2.2.1 (uh HII).2.2.2 rfl (by decide) _ _ _ rfl (uh HR8) ⟨w7.heap.size,0,none⟩ 1 1 [.int .u8 10] rfl rfl (fun j u hu=>by rw[Addr.add_lit,Bh,zy _ _ _ _ rfl];simpa using hu) (fun u hu=>by simp only[ql,xg,xk] at hu;subst hu;rfl) (by unfold maxLen;omega) (by omega) (by simp;omega) ?_));intro v9 w9 hr9 hg9 _;have baf:=arn (uh HO8) (uh HR8) (by decide);have HO9:=hide (ao9 (uh HO8) hg9 baf);have W9:=hide ((uh HB8).grown hg9 (by simp;omega) (fun k e=>(own_base (uh HR8) k e)))
     have HR9:Hid (w9.ownsRow (w.heap.size+1) 5 1 v9 (Gi (LL.take (q+1))).size (Lib.strCells (Gi (LL.take (q+1))))):=by
      refine hide ?_;rw[uh HT,Xz,Xz,Lc,Lc];have e1:Wnl.size=1:=rfl;have e2:Lib.strCells Wnl=[.int .u8 10]:=rfl;rw[e1,e2,←Nat.add_assoc];exact hr9
     clear hr9 hg9 baf;go_wp2
     go_roundg (LL.length-(q+1))
     case measure=>have:=uh HG;omega
     case rel=>exact⟨q+1,by omega,rfl,by go_num,HR9,HO9,W9⟩
    ·have e:q=LL.length:=by omega
     have hcv:(convert 64 9 u18).run Tryz.prog wr=.ok (.string TX) wr:=by
      have h8:=uh HR;rw[e,uh bd5] at h8;exact a1d wr _ _ _ _ h8
     have HF:=hide (uh Ie _ (uh HB));clear e;go_wp2;go_ret;exact⟨rfl,uh HF⟩
end Go.Proofs.YtfeejeflmcapoaaGreatDoor
