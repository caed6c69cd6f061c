import Derived.Test.YtfeejeflmcapoaaGreatDoorImplFresh
import Derived.Test.YtfeejeflmcapoaaGreatDoorRG1
import Derived.Deep.QuietTactic
import Derived.BigQuiet
import Derived.Test.YtfeejeflmcapoaaGreatDoorEvI
import Derived.Test.YtfeejeflmcapoaaGreatDoorRS3
set_option linter.unusedSimpArgs false
set_option linter.unusedVariables false
set_option maxHeartbeats 4000000
set_option maxRecDepth 20000
namespace Go.Proofs.YtfeejeflmcapoaaGreatDoor
open Go.RowKit
def Dl (s:lu):Bool :=
 (decide (s.kind=1\/s.kind=4)||decide (s.name.size=0))&&(decide (s.kind=2\/s.kind=3)||decide (s.at_=0))&&(decide (s.kind=1\/s.kind=2)||decide (s.code.length=0))&&(decide (s.kind=3)||decide (s.au.length+s.args.length=0))
theorem vk (w:cu) (n:Nat):Below w.heap.size w (w.drewN n):=⟨rfl,rfl,rfl,gu _,fun _ _=>rfl⟩
theorem Jt {a b:Bool} (h:a=b):Ending.returned (.bool a)=.returned (.bool b):=by rw[h]
theorem amu (nm:dh) (jl:Int) (au:List dh) (code:List l9) (args:List (List l9)) (a1 a2 a3:Option Addr) (n1 n2 n3 c1 c2 c3:Nat) (e1:au.length=n1) (e2:code.length=n2) (e3:args.length=n3) (hl1:n1<=140737488355328) (hl3:n3<=140737488355328) (b o:Nat) (w:cu)
  (q0:w.cell? ⟨b,o,none⟩=some (.int .i64 1)) (q1:w.cell? ⟨b,o+1,none⟩=some (.string nm)) (q2:w.cell? ⟨b,o+2,none⟩=some (.int .i64 jl)) (q3:w.cell? ⟨b,o+3,none⟩=some (.slice a1 n1 c1)) (q4:w.cell? ⟨b,o+4,none⟩=some (.slice a2 n2 c2)) (q5:w.cell? ⟨b,o+5,none⟩=some (.slice a3 n3 c3)) :
  Calls Tryz.prog 178 #[.pointer (some ⟨b,o,none⟩)] w (Ans (.bool (Dl ⟨1,nm,jl,au,code,args⟩)) w):=by
 by_cases hA:jl=0
 ·have g2:(jl==0)=true:=by rw[Ey];exact hA
  by_cases hO:n1+n3=0
  ·have g4:((n1:Int)+(n3:Int)==0)=true:=by rw[Ey];omega
   have HU:Hid (Dl ⟨1,nm,jl,au,code,args⟩=true):=by simp[Dl,ak,Hid,e1,e2,e3,hA,hO,];try omega
   clear e1 e2 e3
   try clear hN
   try clear hA
   try clear hC
   try clear hO
   go_enter Tryz.func178,Tryz.ntmps178;go_wp2_with fail;go_quiet ((fail));go_wp2;go_ret;exact⟨Jt (uh HU).symm,vk _ _⟩
  ·have g4:((n1:Int)+(n3:Int)==0)=false:=by rw[su];omega
   have HU:Hid (Dl ⟨1,nm,jl,au,code,args⟩=false):=by simp[Dl,ak,Hid,e1,e2,e3,hA,hO];try omega
   clear e1 e2 e3
   try clear hN
   try clear hA
   try clear hC
   try clear hO
   go_enter Tryz.func178,Tryz.ntmps178;go_wp2_with fail;go_quiet ((fail));go_wp2;go_ret;exact⟨Jt (uh HU).symm,vk _ _⟩
 ·have g2:(jl==0)=false:=by rw[su];exact hA
  have HU:Hid (Dl ⟨1,nm,jl,au,code,args⟩=false):=by simp[Dl,ak,Hid,e1,e2,e3,hA];try omega
  clear e1 e2 e3
  try clear hN
  try clear hA
  try clear hC
  try clear hO
  go_enter Tryz.func178,Tryz.ntmps178;go_wp2_with fail;go_quiet ((fail));go_wp2;go_ret;exact⟨Jt (uh HU).symm,vk _ _⟩
theorem amv (nm:dh) (jl:Int) (au:List dh) (code:List l9) (args:List (List l9)) (a1 a2 a3:Option Addr) (n1 n2 n3 c1 c2 c3:Nat) (e1:au.length=n1) (e2:code.length=n2) (e3:args.length=n3) (hl1:n1<=140737488355328) (hl3:n3<=140737488355328) (b o:Nat) (w:cu)
  (q0:w.cell? ⟨b,o,none⟩=some (.int .i64 2)) (q1:w.cell? ⟨b,o+1,none⟩=some (.string nm)) (q2:w.cell? ⟨b,o+2,none⟩=some (.int .i64 jl)) (q3:w.cell? ⟨b,o+3,none⟩=some (.slice a1 n1 c1)) (q4:w.cell? ⟨b,o+4,none⟩=some (.slice a2 n2 c2)) (q5:w.cell? ⟨b,o+5,none⟩=some (.slice a3 n3 c3)) :
  Calls Tryz.prog 178 #[.pointer (some ⟨b,o,none⟩)] w (Ans (.bool (Dl ⟨2,nm,jl,au,code,args⟩)) w):=by
 by_cases hN:nm.size=0
 ·have g1:=Na nm hN
  have g1b:=I9 nm hN
  by_cases hO:n1+n3=0
  ·have g4:((n1:Int)+(n3:Int)==0)=true:=by rw[Ey];omega
   have HU:Hid (Dl ⟨2,nm,jl,au,code,args⟩=true):=by simp[Dl,ak,Hid,e1,e2,e3,hN,hO,];try omega
   clear e1 e2 e3
   try clear hN
   try clear hA
   try clear hC
   try clear hO
   go_enter Tryz.func178,Tryz.ntmps178;go_wp2_with fail;go_quiet ((fail));go_wp2;go_ret;exact⟨Jt (uh HU).symm,vk _ _⟩
  ·have g4:((n1:Int)+(n3:Int)==0)=false:=by rw[su];omega
   have HU:Hid (Dl ⟨2,nm,jl,au,code,args⟩=false):=by simp[Dl,ak,Hid,e1,e2,e3,hN,hO];try omega
   clear e1 e2 e3
   try clear hN
   try clear hA
   try clear hC
   try clear hO
   go_enter Tryz.func178,Tryz.ntmps178;go_wp2_with fail;go_quiet ((fail));go_wp2;go_ret;exact⟨Jt (uh HU).symm,vk _ _⟩
 ·have g1:=O1 nm hN
  have g1b:=J5 nm hN
  have HU:Hid (Dl ⟨2,nm,jl,au,code,args⟩=false):=by simp[Dl,ak,Hid,e1,e2,e3,hN];try omega
  clear e1 e2 e3
  try clear hN
  try clear hA
  try clear hC
  try clear hO
  go_enter Tryz.func178,Tryz.ntmps178;go_wp2_with fail;go_quiet ((fail));go_wp2;go_ret;exact⟨Jt (uh HU).symm,vk _ _⟩
theorem amw (nm:dh) (jl:Int) (au:List dh) (code:List l9) (args:List (List l9)) (a1 a2 a3:Option Addr) (n1 n2 n3 c1 c2 c3:Nat) (e1:au.length=n1) (e2:code.length=n2) (e3:args.length=n3) (hl1:n1<=140737488355328) (hl3:n3<=140737488355328) (b o:Nat) (w:cu)
  (q0:w.cell? ⟨b,o,none⟩=some (.int .i64 3)) (q1:w.cell? ⟨b,o+1,none⟩=some (.string nm)) (q2:w.cell? ⟨b,o+2,none⟩=some (.int .i64 jl)) (q3:w.cell? ⟨b,o+3,none⟩=some (.slice a1 n1 c1)) (q4:w.cell? ⟨b,o+4,none⟩=some (.slice a2 n2 c2)) (q5:w.cell? ⟨b,o+5,none⟩=some (.slice a3 n3 c3)) :
  Calls Tryz.prog 178 #[.pointer (some ⟨b,o,none⟩)] w (Ans (.bool (Dl ⟨3,nm,jl,au,code,args⟩)) w):=by
 by_cases hN:nm.size=0
 ·have g1:=Na nm hN
  have g1b:=I9 nm hN
  by_cases hC:n2=0
  ·have g3:((n2:Int)==0)=true:=by rw[Ey];omega
   have HU:Hid (Dl ⟨3,nm,jl,au,code,args⟩=true):=by simp[Dl,ak,Hid,e1,e2,e3,hN,hC,];try omega
   clear e1 e2 e3
   try clear hN
   try clear hA
   try clear hC
   try clear hO
   go_enter Tryz.func178,Tryz.ntmps178;go_wp2_with fail;go_quiet ((fail));go_wp2;go_ret;exact⟨Jt (uh HU).symm,vk _ _⟩
  ·have g3:((n2:Int)==0)=false:=by rw[su];omega
   have HU:Hid (Dl ⟨3,nm,jl,au,code,args⟩=false):=by simp[Dl,ak,Hid,e1,e2,e3,hN,hC];try omega
   clear e1 e2 e3
   try clear hN
   try clear hA
   try clear hC
   try clear hO
   go_enter Tryz.func178,Tryz.ntmps178;go_wp2_with fail;go_quiet ((fail));go_wp2;go_ret;exact⟨Jt (uh HU).symm,vk _ _⟩
 ·have g1:=O1 nm hN
  have g1b:=J5 nm hN
  have HU:Hid (Dl ⟨3,nm,jl,au,code,args⟩=false):=by simp[Dl,ak,Hid,e1,e2,e3,hN];try omega
  clear e1 e2 e3
  try clear hN
  try clear hA
  try clear hC
  try clear hO
  go_enter Tryz.func178,Tryz.ntmps178;go_wp2_with fail;go_quiet ((fail));go_wp2;go_ret;exact⟨Jt (uh HU).symm,vk _ _⟩
theorem amx (nm:dh) (jl:Int) (au:List dh) (code:List l9) (args:List (List l9)) (a1 a2 a3:Option Addr) (n1 n2 n3 c1 c2 c3:Nat) (e1:au.length=n1) (e2:code.length=n2) (e3:args.length=n3) (hl1:n1<=140737488355328) (hl3:n3<=140737488355328) (b o:Nat) (w:cu)
  (q0:w.cell? ⟨b,o,none⟩=some (.int .i64 4)) (q1:w.cell? ⟨b,o+1,none⟩=some (.string nm)) (q2:w.cell? ⟨b,o+2,none⟩=some (.int .i64 jl)) (q3:w.cell? ⟨b,o+3,none⟩=some (.slice a1 n1 c1)) (q4:w.cell? ⟨b,o+4,none⟩=some (.slice a2 n2 c2)) (q5:w.cell? ⟨b,o+5,none⟩=some (.slice a3 n3 c3)) :
  Calls Tryz.prog 178 #[.pointer (some ⟨b,o,none⟩)] w (Ans (.bool (Dl ⟨4,nm,jl,au,code,args⟩)) w):=by
 by_cases hA:jl=0
 ·have g2:(jl==0)=true:=by rw[Ey];exact hA
  by_cases hC:n2=0
  ·have g3:((n2:Int)==0)=true:=by rw[Ey];omega
   by_cases hO:n1+n3=0
   ·have g4:((n1:Int)+(n3:Int)==0)=true:=by rw[Ey];omega
    have HU:Hid (Dl ⟨4,nm,jl,au,code,args⟩=true):=by simp[Dl,ak,Hid,e1,e2,e3,hA,hC,hO,];try omega
    clear e1 e2 e3
    try clear hN
    try clear hA
    try clear hC
    try clear hO
    go_enter Tryz.func178,Tryz.ntmps178;go_wp2_with fail;go_quiet ((fail));go_wp2;go_ret;exact⟨Jt (uh HU).symm,vk _ _⟩
   ·have g4:((n1:Int)+(n3:Int)==0)=false:=by rw[su];omega
    have HU:Hid (Dl ⟨4,nm,jl,au,code,args⟩=false):=by simp[Dl,ak,Hid,e1,e2,e3,hA,hC,hO];try omega
    clear e1 e2 e3
    try clear hN
    try clear hA
    try clear hC
    try clear hO
    go_enter Tryz.func178,Tryz.ntmps178;go_wp2_with fail;go_quiet ((fail));go_wp2;go_ret;exact⟨Jt (uh HU).symm,vk _ _⟩
  ·have g3:((n2:Int)==0)=false:=by rw[su];omega
   have HU:Hid (Dl ⟨4,nm,jl,au,code,args⟩=false):=by simp[Dl,ak,Hid,e1,e2,e3,hA,hC];try omega
   clear e1 e2 e3
   try clear hN
   try clear hA
   try clear hC
   try clear hO
   go_enter Tryz.func178,Tryz.ntmps178;go_wp2_with fail;go_quiet ((fail));go_wp2;go_ret;exact⟨Jt (uh HU).symm,vk _ _⟩
 ·have g2:(jl==0)=false:=by rw[su];exact hA
  have HU:Hid (Dl ⟨4,nm,jl,au,code,args⟩=false):=by simp[Dl,ak,Hid,e1,e2,e3,hA];try omega
  clear e1 e2 e3
  try clear hN
  try clear hA
  try clear hC
  try clear hO
  go_enter Tryz.func178,Tryz.ntmps178;go_wp2_with fail;go_quiet ((fail));go_wp2;go_ret;exact⟨Jt (uh HU).symm,vk _ _⟩
theorem amy (kd:Int) (alh:kd≠1) (ali:kd≠2) (alj:kd≠3) (alk:kd≠4) (nm:dh) (jl:Int) (au:List dh) (code:List l9) (args:List (List l9)) (a1 a2 a3:Option Addr) (n1 n2 n3 c1 c2 c3:Nat) (e1:au.length=n1) (e2:code.length=n2) (e3:args.length=n3) (hl1:n1<=140737488355328) (hl3:n3<=140737488355328) (b o:Nat) (w:cu)
  (q0:w.cell? ⟨b,o,none⟩=some (.int .i64 kd)) (q1:w.cell? ⟨b,o+1,none⟩=some (.string nm)) (q2:w.cell? ⟨b,o+2,none⟩=some (.int .i64 jl)) (q3:w.cell? ⟨b,o+3,none⟩=some (.slice a1 n1 c1)) (q4:w.cell? ⟨b,o+4,none⟩=some (.slice a2 n2 c2)) (q5:w.cell? ⟨b,o+5,none⟩=some (.slice a3 n3 c3)) :
  Calls Tryz.prog 178 #[.pointer (some ⟨b,o,none⟩)] w (Ans (.bool (Dl ⟨kd,nm,jl,au,code,args⟩)) w):=by
 have k1:(kd==1)=false:=by rw[su];exact alh
 have k2:(kd==2)=false:=by rw[su];exact ali
 have k3:(kd==3)=false:=by rw[su];exact alj
 have k4:(kd==4)=false:=by rw[su];exact alk
 by_cases hN:nm.size=0
 ·have g1:=Na nm hN
  have g1b:=I9 nm hN
  by_cases hA:jl=0
  ·have g2:(jl==0)=true:=by rw[Ey];exact hA
   by_cases hC:n2=0
   ·have g3:((n2:Int)==0)=true:=by rw[Ey];omega
    by_cases hO:n1+n3=0
    ·have g4:((n1:Int)+(n3:Int)==0)=true:=by rw[Ey];omega
     have HU:Hid (Dl ⟨kd,nm,jl,au,code,args⟩=true):=by simp[Dl,ak,Hid,e1,e2,e3,hN,hA,hC,hO,alh,ali,alj,alk];try omega
     clear e1 e2 e3
     try clear hN
     try clear hA
     try clear hC
     try clear hO
     go_enter Tryz.func178,Tryz.ntmps178;go_wp2_with fail;go_quiet ((fail));go_wp2;go_ret;exact⟨Jt (uh HU).symm,vk _ _⟩
    ·have g4:((n1:Int)+(n3:Int)==0)=false:=by rw[su];omega
     have HU:Hid (Dl ⟨kd,nm,jl,au,code,args⟩=false):=by simp[Dl,ak,Hid,e1,e2,e3,hN,hA,hC,alh,ali,alj,alk,hO];try omega
     clear e1 e2 e3
     try clear hN
     try clear hA
     try clear hC
     try clear hO
     go_enter Tryz.func178,Tryz.ntmps178;go_wp2_with fail;go_quiet ((fail));go_wp2;go_ret;exact⟨Jt (uh HU).symm,vk _ _⟩
   ·have g3:((n2:Int)==0)=false:=by rw[su];omega
    have HU:Hid (Dl ⟨kd,nm,jl,au,code,args⟩=false):=by simp[Dl,ak,Hid,e1,e2,e3,hN,hA,alh,ali,alj,alk,hC];try omega
    clear e1 e2 e3
    try clear hN
    try clear hA
    try clear hC
    try clear hO
    go_enter Tryz.func178,Tryz.ntmps178;go_wp2_with fail;go_quiet ((fail));go_wp2;go_ret;exact⟨Jt (uh HU).symm,vk _ _⟩
  ·have g2:(jl==0)=false:=by rw[su];exact hA
   have HU:Hid (Dl ⟨kd,nm,jl,au,code,args⟩=false):=by simp[Dl,ak,Hid,e1,e2,e3,hN,alh,ali,alj,alk,hA];try omega
   clear e1 e2 e3
   try clear hN
   try clear hA
   try clear hC
   try clear hO
   go_enter Tryz.func178,Tryz.ntmps178;go_wp2_with fail;go_quiet ((fail));go_wp2;go_ret;exact⟨Jt (uh HU).symm,vk _ _⟩
 ·have g1:=O1 nm hN
  have g1b:=J5 nm hN
  have HU:Hid (Dl ⟨kd,nm,jl,au,code,args⟩=false):=by simp[Dl,ak,Hid,e1,e2,e3,alh,ali,alj,alk,hN];try omega
  clear e1 e2 e3
  try clear hN
  try clear hA
  try clear hC
  try clear hO
  go_enter Tryz.func178,Tryz.ntmps178;go_wp2_with fail;go_quiet ((fail));go_wp2;go_ret;exact⟨Jt (uh HU).symm,vk _ _⟩
def Ql (k:dw):Bool:=decide (1<=k.au.length/\k.ins.length+k.au.length+k.iw.length<=1000)&&((List.range k.ins.length).all (Pj [] k.ins)&&(List.range k.au.length).all (Pj (k.ins.map jw.name) k.au)&&(List.range k.iw.length).all (U0 (k.ins.map jw.name++k.au.map jw.name) k.iw))
theorem atj (k:dw) (pb mb cb co:Nat) (a1 a2 a3 a4 a5 a6:Value) (W0 w:cu) (hC:CA W0 cb co k a1 a2 a3 a4 a5 a6) (hW:Below W0.heap.size W0 w) (hmb:W0.heap.size<=mb) (hpb:pb≠mb) (hc0:w.cell? ⟨pb,0,none⟩=some (.pointer (some ⟨cb,co,none⟩))) (hc1:w.cell? ⟨pb,1,none⟩=some (.map (some mb))) (hM:Iu w mb 0 (Ce [])) :
  Calls Tryz.prog 126 #[.pointer (some ⟨pb,0,none⟩)] w fun e w'=>e=.returned (.bool (Ql k))/\(Ql k=true->Iu w' mb (varsOf k).length (Ce (varsOf k)))/\But [mb] w w':=by
 have hpl:pb<w.heap.size:=Jh w _ hc1;have hcb:cb≠mb:=by have:=hC.lt;omega
 obtain⟨b1,n1,rfl⟩:=hC.ins.shape;obtain⟨b2,n2,rfl⟩:=hC.au.shape;obtain⟨b3,n3,rfl⟩:=hC.iw.shape;have l1:=hC.ins.Ob;have l2:=hC.au.Ob;have l3:=hC.iw.Ob;have hCw:=hC
 have cc:∀w',But [mb] w w'->w'.cell? ⟨cb,co+1,none⟩=some (.slice b1 k.ins.length n1)/\w'.cell? ⟨cb,co+2,none⟩=some (.slice b2 k.au.length n2)/\w'.cell? ⟨cb,co+3,none⟩=some (.slice b3 k.iw.length n3)/\w'.cell? ⟨pb,0,none⟩=some (.pointer (some ⟨cb,co,none⟩))/\w'.cell? ⟨pb,1,none⟩=some (.map (some mb)):=fun w' h=>by
  have hb:Below W0.heap.size W0 w':=hW.trans (h.below _ hW.size (fun q hq=>by rw[yt] at hq;omega));refine⟨?_,?_,?_,?_,?_⟩
  ·rw[hb.cell (p:=⟨cb,co+1,none⟩) hC.lt];exact hC.c1
  ·rw[hb.cell (p:=⟨cb,co+2,none⟩) hC.lt];exact hC.c2
  ·rw[hb.cell (p:=⟨cb,co+3,none⟩) hC.lt];exact hC.c3
  ·rw[h.cell (p:=⟨pb,0,none⟩) hpl (by simpa using hpb)];exact hc0
  ·rw[h.cell (p:=⟨pb,1,none⟩) hpl (by simpa using hpb)];exact hc1
 have HCC:=ak cc;obtain⟨d1,d2,d3,_,_⟩:=cc w (But.refl _ _)
 have Ub:Hid (k.ins.length+k.au.length+k.iw.length<=1000->∀n,Calls Tryz.prog 144 #[.slice b1 k.ins.length n1,.func (.func 145) #[.pointer (some ⟨pb,0,none⟩)] #[]] (w.drewN n) fun e w'=>e=.returned (.bool ((List.range k.ins.length).all (Pj [] k.ins)))/\((List.range k.ins.length).all (Pj [] k.ins)=true->Iu w' mb (0+k.ins.length) (Ce ([]++k.ins.map jw.name)))/\But [mb] w w'):=fun h n=>by
  have hdn:But [mb] w (w.drewN n):=⟨rfl,rfl,rfl,gu _,fun _ _ _=>rfl⟩;refine(ana pb mb [] k.ins _ W0 (w.drewN n) hC.ins ⟨hW.os,hW.tape,hW.output,hW.size,hW.block⟩ hmb hpb (by simp;omega) hc1 (hM.block rfl)).mono ?_;rintro e w' ⟨rfl,h1,h2⟩;exact⟨rfl,h1,hdn.trans h2⟩
 have HS2:Hid (k.ins.length+k.au.length+k.iw.length<=1000->∀w1,But [mb] w w1->Iu w1 mb (0+k.ins.length) (Ce ([]++k.ins.map jw.name))->Calls Tryz.prog 144 #[.slice b2 k.au.length n2,.func (.func 145) #[.pointer (some ⟨pb,0,none⟩)] #[]] w1 fun e w'=>e=.returned (.bool ((List.range k.au.length).all (Pj (k.ins.map jw.name) k.au)))/\((List.range k.au.length).all (Pj (k.ins.map jw.name) k.au)=true->Iu w' mb (k.ins.length+k.au.length) (Ce (k.ins.map jw.name++k.au.map jw.name)))/\But [mb] w w'):=fun h w1 hb hM1=>by
  refine(ana pb mb (k.ins.map jw.name) k.au _ W0 w1 hC.au (hW.trans (hb.below _ hW.size (fun q hq=>by rw[yt] at hq;omega))) hmb hpb (by simp;omega) (cc w1 hb).2.2.2.2 (by simpa using hM1)).mono ?_;rintro e w' ⟨rfl,h1,h2⟩;exact⟨rfl,(fun g=>by simpa using h1 g),hb.trans h2⟩
 have Vj:Hid (k.ins.length+k.au.length+k.iw.length<=1000->∀w1,But [mb] w w1->Iu w1 mb (k.ins.length+k.au.length) (Ce (k.ins.map jw.name++k.au.map jw.name))->Calls Tryz.prog 146 #[.slice b3 k.iw.length n3,.func (.func 147) #[.pointer (some ⟨pb,0,none⟩)] #[]] w1 fun e w'=>e=.returned (.bool ((List.range k.iw.length).all (U0 (k.ins.map jw.name++k.au.map jw.name) k.iw)))/\((List.range k.iw.length).all (U0 (k.ins.map jw.name++k.au.map jw.name) k.iw)=true->Iu w' mb (varsOf k).length (Ce (varsOf k)))/\But [mb] w w'):=fun h w1 hb hM1=>by
  refine(ayg pb mb (k.ins.map jw.name++k.au.map jw.name) k.iw _ W0 w1 hC.iw (hW.trans (hb.below _ hW.size (fun q hq=>by rw[yt] at hq;omega))) hmb hpb (by simp;omega) (cc w1 hb).2.2.2.2 (by simpa using hM1)).mono ?_;rintro e w' ⟨rfl,h1,h2⟩;refine⟨rfl,(fun g=>?_),hb.trans h2⟩;have:=h1 g;unfold varsOf;simpa[Nat.add_assoc] using this
 have HD:Hid (Ql k=(decide (1<=k.au.length/\k.ins.length+k.au.length+k.iw.length<=1000)&&((List.range k.ins.length).all (Pj [] k.ins)&&(List.range k.au.length).all (Pj (k.ins.map jw.name) k.au)&&(List.range k.iw.length).all (U0 (k.ins.map jw.name++k.au.map jw.name) k.iw)))):=rfl;have Vf:Hid (∀n,But [mb] w (w.drewN n)):=fun n=>⟨rfl,rfl,rfl,gu _,fun _ _ _=>rfl⟩
 clear cc hM hC hCw hW;generalize Ql k=R at *;generalize (List.range k.ins.length).all (Pj [] k.ins)=r1 at *;generalize (List.range k.au.length).all (Pj (k.ins.map jw.name) k.au)=r2 at *;generalize (List.range k.iw.length).all (U0 (k.ins.map jw.name++k.au.map jw.name) k.iw)=r3 at *
 by_cases h1:k.au.length=0
 ·have e1:((k.au.length:Int)==0)=true:=by rw[Ey];omega
  have HF:Hid (R=false):=(uh HD).trans (by rw[iy (by omega),Aw]);clear HD Ub HS2 Vj HCC h1;go_enter Tryz.func126,Tryz.ntmps126;go_wp2_with fail;go_quiet ((fail));go_wp2;go_ret;rw[uh HF];exact⟨rfl,(fun h=>by cases h),uh Vf _⟩
 have e1:((k.au.length:Int)==0)=false:=by rw[su];omega
 by_cases h2:k.ins.length+k.au.length+k.iw.length<=1000
 case neg =>
  have e2:decide (1000<(k.ins.length:Int)+(k.au.length:Int)+(k.iw.length:Int))=true:=jf (by omega);have HF:Hid (R=false):=(uh HD).trans (by rw[iy (by omega),Aw]);clear HD Ub HS2 Vj HCC h1 h2;go_enter Tryz.func126,Tryz.ntmps126;go_wp2_with fail;go_quiet ((fail));go_wp2;go_ret;rw[uh HF];exact⟨rfl,(fun h=>by cases h),uh Vf _⟩
 have e2:decide (1000<(k.ins.length:Int)+(k.au.length:Int)+(k.iw.length:Int))=false:=iy (by omega);have HF:Hid (R=(r1&&r2&&r3)):=(uh HD).trans (by rw[jf (by omega),Ak]);have bbl:=ak (uh Ub h2);have bbm:=ak (uh HS2 h2);have bbn:=ak (uh Vj h2);clear HD Ub HS2 Vj h1 h2;go_enter Tryz.func126,Tryz.ntmps126;go_wp2_with fail;go_quiet ((fail));go_wp2_with fail;refine(uh bbl _).mono ?_;rintro e w1 ⟨rfl,hm1,hb1⟩;have HM1:=ak hm1;have HB1:=ak hb1;obtain⟨p1,p2,p3,p4,p5⟩:=uh HCC w1 hb1;clear hm1 hb1 bbl
 cases r1
 ·go_wp2
  go_ret;rw[uh HF];exact⟨rfl,(fun h=>by cases h),uh HB1⟩
 have HS2:=ak (uh bbm w1 (uh HB1) (uh HM1 rfl));clear HM1 bbm;go_wp2_with fail;refine(uh HS2).mono ?_;rintro e w2 ⟨rfl,hm2,hb2⟩;have HM2:=ak hm2;have HB2:=ak hb2;obtain⟨q1,q2,q3,q4,q5⟩:=uh HCC w2 hb2;clear hm2 hb2 HS2
 cases r2
 ·go_wp2
  go_ret;rw[uh HF];exact⟨rfl,(fun h=>by cases h),uh HB2⟩
 have Vj:=ak (uh bbn w2 (uh HB2) (uh HM2 rfl));clear HM2 bbn;go_wp2_with fail;refine(uh Vj).mono ?_;rintro e w3 ⟨rfl,hm3,hb3⟩;have HM3:=ak hm3;have HB3:=ak hb3;clear hm3 hb3 Vj;go_wp2;go_ret;rw[uh HF];exact⟨rfl,(fun h=>uh HM3 (by simpa using h)),uh HB3⟩
structure PR (w:cu) (pb mb cb co:Nat) (k:dw):Prop where
 p0:w.cell? ⟨pb,0,none⟩=some (.pointer (some ⟨cb,co,none⟩))
 p1:w.cell? ⟨pb,1,none⟩=some (.map (some mb))
 c4:∃b c,w.cell? ⟨cb,co+4,none⟩=some (.slice b k.gq.length c)
 ml:k.gq.length<=140737488355328
 map:Iu w mb (varsOf k).length (Ce (varsOf k))
theorem PR.stays {w w':cu} {pb mb cb co:Nat} {k:dw} (h:PR w pb mb cb co k) (hb:Below w.heap.size w w'):PR w' pb mb cb co k:=by
 obtain⟨b,c,hc⟩:=h.c4;exact⟨(hb.cell (p:=⟨pb,0,none⟩) (Jh w _ h.p0)).trans h.p0,(hb.cell (p:=⟨pb,1,none⟩) (Jh w _ h.p1)).trans h.p1,⟨b,c,(hb.cell (p:=⟨cb,co+4,none⟩) (Jh w _ hc)).trans hc⟩,h.ml,h.map.below hb h.map.lt⟩
def Z7 (k:dw) (t:l9):Bool :=
 if t.op=25 then decide (t.name.size=0)&&decide (0<=t.val)&&decide (t.val<(k.gq.length:Int))
 else if 20<t.op then false else if itB t=false then false
 else if t.op=3 then decide (0<=je (varsOf k) t.name) else true
theorem ap9 (k:dw) (t:l9) (pb mb cb co:Nat) (w:cu) (h:PR w pb mb cb co k) (hs:Len t.name.size) :
  Calls Tryz.prog 190 #[.pointer (some ⟨pb,0,none⟩),.agg #[.int .i64 t.op,.int .i64 t.val,.string t.name]] w (Ans (.bool (Z7 k t)) w):=by
 have hs':t.name.size<=maxLen:=by unfold Len at hs;unfold maxLen;omega
 have hA:Below w.heap.size w (w.alloc (.cells #[.int .i64 t.op,.int .i64 t.val,.string t.name] 83)):=(iq _ _).alloc (gu _) _;have h':=h.stays hA;have p0:=h.p0;have p1:=h.p1;have hp:=Jh w _ h.p0;obtain⟨mbb,mcc,c4⟩:=h.c4;have hcl:=Jh w _ c4;have ml:=h.ml;have HMP:=ak h'.map;have HI:=ak (fun w=>avc t w hs);have HE:Hid (Z7 k t=if t.op=25 then decide (t.name.size=0)&&decide (0<=t.val)&&decide (t.val<(k.gq.length:Int)) else if 20<t.op then false else if itB t=false then false else if t.op=3 then decide (0<=je (varsOf k) t.name) else true):=rfl;have HA:=ak hA;generalize Z7 k t=R at *;generalize itB t=ib at *;obtain⟨op,val,nm⟩:=t;simp only at *;clear h h' hA
 by_cases Rt:op=25
 ·subst Rt
  have HR:Hid (R=(decide (nm.size=0)&&decide (0<=val)&&decide (val<(k.gq.length:Int)))):=(uh HE).trans (gy rfl);clear HE HI HMP
  by_cases hN:nm.size=0
  ·have g1:=Na nm hN
   have g1b:=I9 nm hN;have HR2:Hid (R=(decide (0<=val)&&decide (val<(k.gq.length:Int)))):=(uh HR).trans (by rw[jf hN,Ak]);clear HR hN
   by_cases h0:0<=val
   ·have g2:decide (0<=val)=true:=jf h0
    have HR3:Hid (R=decide (val<(k.gq.length:Int))):=(uh HR2).trans (by rw[g2,Ak]);clear HR2
    by_cases hm:val<(k.gq.length:Int)
    ·have g3:decide (val<(k.gq.length:Int))=true:=jf hm
     have HF:Hid (R=true):=(uh HR3).trans g3;clear HR3;go_enter Tryz.func190,Tryz.ntmps190;go_wp2_with fail;go_quiet ((fail));go_wp2;go_ret;exact⟨Nq (uh HF).symm,below_drewN (uh HA) _⟩
    ·have g3:decide (val<(k.gq.length:Int))=false:=iy hm
     have HF:Hid (R=false):=(uh HR3).trans g3;clear HR3;go_enter Tryz.func190,Tryz.ntmps190;go_wp2_with fail;go_quiet ((fail));go_wp2;go_ret;exact⟨Nq (uh HF).symm,below_drewN (uh HA) _⟩
   ·have g2:decide (0<=val)=false:=iy h0
    have HF:Hid (R=false):=(uh HR2).trans (by rw[g2,Aw]);clear HR2;go_enter Tryz.func190,Tryz.ntmps190;go_wp2_with fail;go_quiet ((fail));go_wp2;go_ret;exact⟨Nq (uh HF).symm,below_drewN (uh HA) _⟩
  ·have g1:=O1 nm hN
   have g1b:=J5 nm hN;have HF:Hid (R=false):=(uh HR).trans (by rw[iy hN];rfl);clear HR hN;go_enter Tryz.func190,Tryz.ntmps190;go_wp2_with fail;go_quiet ((fail));go_wp2;go_ret;exact⟨Nq (uh HF).symm,below_drewN (uh HA) _⟩
 have b25:(op==25)=false:=by rw[su];exact Rt
 have HR:Hid (R=if 20<op then false else if ib=false then false else if op=3 then decide (0<=je (varsOf k) nm) else true):=(uh HE).trans (bf Rt);clear HE Rt
 by_cases h20:20<op
 ·have g2:decide (20<op)=true:=jf h20
  have HF:Hid (R=false):=(uh HR).trans (gy h20);clear HR HMP HI;go_enter Tryz.func190,Tryz.ntmps190;go_wp2;go_ret;exact⟨Nq (uh HF).symm,uh HA⟩
 have g2:decide (20<op)=false:=iy h20;have HR2:Hid (R=if ib=false then false else if op=3 then decide (0<=je (varsOf k) nm) else true):=(uh HR).trans (bf h20);clear HR h20
 cases ib
 ·have HF:Hid (R=false):=(uh HR2).trans (gy rfl)
  clear HR2 HMP;go_enter Tryz.func190,Tryz.ntmps190;go_wp2_with fail;refine(uh HI _).mono ?_;rintro e w1 ⟨rfl,hb1⟩;have HB:=ak ((uh HA).trans (hb1.mono (uh HA).size));clear hb1;go_wp2;go_ret;exact⟨Nq (uh HF).symm,uh HB⟩
 have HR3:Hid (R=if op=3 then decide (0<=je (varsOf k) nm) else true):=(uh HR2).trans (bf (by decide));have D5:=ak (oh w #[.int .i64 op,.int .i64 val,.string nm] 83);clear HR2
 by_cases h3:op=3
 ·subst h3
  have HR4:Hid (R=decide (0<=je (varsOf k) nm)):=(uh HR3).trans (gy rfl);clear HR3
  by_cases hpl:0<=je (varsOf k) nm
  ·have HF:Hid (R=true):=(uh HR4).trans (jf hpl)
   have HNF:=ak (aeh _ _ hpl);clear HR4;generalize je (varsOf k) nm=pl at *;go_enter Tryz.func190,Tryz.ntmps190;go_wp2_with fail;refine(uh HI _).mono ?_;rintro e w1 ⟨rfl,hb1⟩;have HB:=ak ((uh HA).trans (hb1.mono (uh HA).size));have q1:w1.cell? ⟨pb,1,none⟩=some (.map (some mb)):=by rw[(uh HB).cell (p:=⟨pb,1,none⟩) hp];exact p1
   have k1:jd w1 w.heap.size 83 #[.int .i64 3,.int .i64 val,.string nm]:=(uh D5).below hb1 (uh D5).lt;have x0:=k1.cell (i:=0) (v:=.int .i64 3) rfl;have x2:=k1.cell (i:=2) (v:=.string nm) rfl
   have hlk:∀n,(Instr.lookup 33 (.map (some mb)) (.string nm) true).run Tryz.prog (w1.drewN n)=.ok (.tuple #[.int .i64 pl,.bool true]) (w1.drewN n):=fun n =>
    Jk.hit (w:=w1.drewN n) (((uh HMP).below hb1 (uh HMP).lt).block rfl) Tryz.underlying9 Tryz.underlying33 (Yb _) hs' (uh HNF)
   clear hb1 k1 HMP HNF;go_wp2_with fail;go_quiet ((fail));go_wp2;go_ret;exact⟨Nq (uh HF).symm,below_drewN (uh HB) _⟩
  ·have HF:Hid (R=false):=(uh HR4).trans (iy hpl)
   have HNF:=ak (ac0 (varsOf k) nm (by omega));clear HR4 hpl;go_enter Tryz.func190,Tryz.ntmps190;go_wp2_with fail;refine(uh HI _).mono ?_;rintro e w1 ⟨rfl,hb1⟩;have HB:=ak ((uh HA).trans (hb1.mono (uh HA).size));have q1:w1.cell? ⟨pb,1,none⟩=some (.map (some mb)):=by rw[(uh HB).cell (p:=⟨pb,1,none⟩) hp];exact p1
   have k1:jd w1 w.heap.size 83 #[.int .i64 3,.int .i64 val,.string nm]:=(uh D5).below hb1 (uh D5).lt;have x0:=k1.cell (i:=0) (v:=.int .i64 3) rfl;have x2:=k1.cell (i:=2) (v:=.string nm) rfl
   have hlk:∀n,(Instr.lookup 33 (.map (some mb)) (.string nm) true).run Tryz.prog (w1.drewN n)=.ok (.tuple #[.int .i64 0,.bool false]) (w1.drewN n):=fun n =>
    Jk.miss (w:=w1.drewN n) (((uh HMP).below hb1 (uh HMP).lt).block rfl) Tryz.underlying9 Tryz.underlying33 (Yb _) hs' (uh HNF)
   clear hb1 k1 HMP HNF;go_wp2_with fail;go_quiet ((fail));go_wp2;go_ret;exact⟨Nq (uh HF).symm,below_drewN (uh HB) _⟩
 ·have b3:(op==3)=false:=by rw[su];exact h3
  have HF:Hid (R=true):=(uh HR3).trans (bf h3);clear HR3 h3;go_enter Tryz.func190,Tryz.ntmps190;go_wp2_with fail;refine(uh HI _).mono ?_;rintro e w1 ⟨rfl,hb1⟩;have HB:=ak ((uh HA).trans (hb1.mono (uh HA).size));have k1:jd w1 w.heap.size 83 #[.int .i64 op,.int .i64 val,.string nm]:=(uh D5).below hb1 (uh D5).lt;have x0:=k1.cell (i:=0) (v:=.int .i64 op) rfl;clear hb1 k1 HMP;go_wp2;go_ret;exact⟨Nq (uh HF).symm,uh HB⟩
end Go.Proofs.YtfeejeflmcapoaaGreatDoor
