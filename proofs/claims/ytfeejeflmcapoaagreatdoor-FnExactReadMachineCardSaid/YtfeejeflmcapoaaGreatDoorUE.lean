import Derived.Test.YtfeejeflmcapoaaGreatDoorImplFresh
import Derived.Test.YtfeejeflmcapoaaGreatDoorRG1
import Derived.Deep.QuietTactic
import Derived.BigQuiet
import Derived.Test.YtfeejeflmcapoaaGreatDoorEvI
import Derived.Test.YtfeejeflmcapoaaGreatDoorRS3
set_option linter.unusedSimpArgs false
set_option linter.unusedVariables false
set_option maxHeartbeats 4000000
namespace Go.Proofs.YtfeejeflmcapoaaGreatDoor
open Go.RowKit
def Dy (s:lu):Bool :=
 (decide (s.kind=1∨s.kind=4)||decide (s.name.size=0))&&(decide (s.kind=2∨s.kind=3)||decide (s.at_=0))&&(decide (s.kind=1∨s.kind=2)||decide (s.code.length=0))&&(decide (s.kind=3)||decide (s.ak.length+s.args.length=0))
theorem uz (w:bf) (n:Nat):Below w.heap.size w (w.drewN n):=⟨rfl,rfl,rfl,gq _,fun _ _=>rfl⟩
theorem Jz {a b:Bool} (h:a=b):Ending.returned (.bool a)=.returned (.bool b):=by rw[h]
theorem amv (nm:dh) (ji:Int) (ak:List dh) (code:List ku) (args:List (List ku)) (a1 a2 a3:Option Addr) (n1 n2 n3 c1 c2 c3:Nat) (e1:ak.length=n1) (e2:code.length=n2) (e3:args.length=n3) (hl1:n1<=140737488355328) (hl3:n3<=140737488355328) (b o:Nat) (w:bf)
  (q0:w.cell? ⟨b,o,none⟩=some (.int .i64 1)) (q1:w.cell? ⟨b,o+1,none⟩=some (.string nm)) (q2:w.cell? ⟨b,o+2,none⟩=some (.int .i64 ji)) (q3:w.cell? ⟨b,o+3,none⟩=some (.slice a1 n1 c1)) (q4:w.cell? ⟨b,o+4,none⟩=some (.slice a2 n2 c2)) (q5:w.cell? ⟨b,o+5,none⟩=some (.slice a3 n3 c3)) :
  Calls Tryz.prog 178 #[.pointer (some ⟨b,o,none⟩)] w (Ans (.bool (Dy ⟨1,nm,ji,ak,code,args⟩)) w):=by
 by_cases hA:ji=0
 ·have g2:(ji == 0)=true:=by rw[Fg];exact hA
  by_cases hO:n1+n3=0
  ·have g4:((n1:Int)+(n3:Int) == 0)=true:=by rw[Fg];omega
   have HU:Hid (Dy ⟨1,nm,ji,ak,code,args⟩=true):=by simp[Dy,hide,Hid,e1,e2,e3,hA,hO,];try omega
   clear e1 e2 e3
   try clear hN
   try clear hA
   try clear hC
   try clear hO
   go_enter Tryz.func178,Tryz.ntmps178;go_wp2_with fail;go_quiet ((fail));go_wp2;go_ret;exact⟨Jz (uh HU).symm,uz _ _⟩
  ·have g4:((n1:Int)+(n3:Int) == 0)=false:=by rw[su];omega
   have HU:Hid (Dy ⟨1,nm,ji,ak,code,args⟩=false):=by simp[Dy,hide,Hid,e1,e2,e3,hA,hO];try omega
   clear e1 e2 e3
   try clear hN
   try clear hA
   try clear hC
   try clear hO
   go_enter Tryz.func178,Tryz.ntmps178;go_wp2_with fail;go_quiet ((fail));go_wp2;go_ret;exact⟨Jz (uh HU).symm,uz _ _⟩
 ·have g2:(ji == 0)=false:=by rw[su];exact hA
  have HU:Hid (Dy ⟨1,nm,ji,ak,code,args⟩=false):=by simp[Dy,hide,Hid,e1,e2,e3,hA];try omega
  clear e1 e2 e3
  try clear hN
  try clear hA
  try clear hC
  try clear hO
  go_enter Tryz.func178,Tryz.ntmps178;go_wp2_with fail;go_quiet ((fail));go_wp2;go_ret;exact⟨Jz (uh HU).symm,uz _ _⟩
theorem amw (nm:dh) (ji:Int) (ak:List dh) (code:List ku) (args:List (List ku)) (a1 a2 a3:Option Addr) (n1 n2 n3 c1 c2 c3:Nat) (e1:ak.length=n1) (e2:code.length=n2) (e3:args.length=n3) (hl1:n1<=140737488355328) (hl3:n3<=140737488355328) (b o:Nat) (w:bf)
  (q0:w.cell? ⟨b,o,none⟩=some (.int .i64 2)) (q1:w.cell? ⟨b,o+1,none⟩=some (.string nm)) (q2:w.cell? ⟨b,o+2,none⟩=some (.int .i64 ji)) (q3:w.cell? ⟨b,o+3,none⟩=some (.slice a1 n1 c1)) (q4:w.cell? ⟨b,o+4,none⟩=some (.slice a2 n2 c2)) (q5:w.cell? ⟨b,o+5,none⟩=some (.slice a3 n3 c3)) :
  Calls Tryz.prog 178 #[.pointer (some ⟨b,o,none⟩)] w (Ans (.bool (Dy ⟨2,nm,ji,ak,code,args⟩)) w):=by
 by_cases hN:nm.size=0
 ·have g1:=Nc nm hN
  have g1b:=Ja nm hN
  by_cases hO:n1+n3=0
  ·have g4:((n1:Int)+(n3:Int) == 0)=true:=by rw[Fg];omega
   have HU:Hid (Dy ⟨2,nm,ji,ak,code,args⟩=true):=by simp[Dy,hide,Hid,e1,e2,e3,hN,hO,];try omega
   clear e1 e2 e3
   try clear hN
   try clear hA
   try clear hC
   try clear hO
   go_enter Tryz.func178,Tryz.ntmps178;go_wp2_with fail;go_quiet ((fail));go_wp2;go_ret;exact⟨Jz (uh HU).symm,uz _ _⟩
  ·have g4:((n1:Int)+(n3:Int) == 0)=false:=by rw[su];omega
   have HU:Hid (Dy ⟨2,nm,ji,ak,code,args⟩=false):=by simp[Dy,hide,Hid,e1,e2,e3,hN,hO];try omega
   clear e1 e2 e3
   try clear hN
   try clear hA
   try clear hC
   try clear hO
   go_enter Tryz.func178,Tryz.ntmps178;go_wp2_with fail;go_quiet ((fail));go_wp2;go_ret;exact⟨Jz (uh HU).symm,uz _ _⟩
 ·have g1:=O8 nm hN
  have g1b:=J8 nm hN
  have HU:Hid (Dy ⟨2,nm,ji,ak,code,args⟩=false):=by simp[Dy,hide,Hid,e1,e2,e3,hN];try omega
  clear e1 e2 e3
  try clear hN
  try clear hA
  try clear hC
  try clear hO
  go_enter Tryz.func178,Tryz.ntmps178;go_wp2_with fail;go_quiet ((fail));go_wp2;go_ret;exact⟨Jz (uh HU).symm,uz _ _⟩
theorem amx (nm:dh) (ji:Int) (ak:List dh) (code:List ku) (args:List (List ku)) (a1 a2 a3:Option Addr) (n1 n2 n3 c1 c2 c3:Nat) (e1:ak.length=n1) (e2:code.length=n2) (e3:args.length=n3) (hl1:n1<=140737488355328) (hl3:n3<=140737488355328) (b o:Nat) (w:bf)
  (q0:w.cell? ⟨b,o,none⟩=some (.int .i64 3)) (q1:w.cell? ⟨b,o+1,none⟩=some (.string nm)) (q2:w.cell? ⟨b,o+2,none⟩=some (.int .i64 ji)) (q3:w.cell? ⟨b,o+3,none⟩=some (.slice a1 n1 c1)) (q4:w.cell? ⟨b,o+4,none⟩=some (.slice a2 n2 c2)) (q5:w.cell? ⟨b,o+5,none⟩=some (.slice a3 n3 c3)) :
  Calls Tryz.prog 178 #[.pointer (some ⟨b,o,none⟩)] w (Ans (.bool (Dy ⟨3,nm,ji,ak,code,args⟩)) w):=by
 by_cases hN:nm.size=0
 ·have g1:=Nc nm hN
  have g1b:=Ja nm hN
  by_cases hC:n2=0
  ·have g3:((n2:Int) == 0)=true:=by rw[Fg];omega
   have HU:Hid (Dy ⟨3,nm,ji,ak,code,args⟩=true):=by simp[Dy,hide,Hid,e1,e2,e3,hN,hC,];try omega
   clear e1 e2 e3
   try clear hN
   try clear hA
   try clear hC
   try clear hO
   go_enter Tryz.func178,Tryz.ntmps178;go_wp2_with fail;go_quiet ((fail));go_wp2;go_ret;exact⟨Jz (uh HU).symm,uz _ _⟩
  ·have g3:((n2:Int) == 0)=false:=by rw[su];omega
   have HU:Hid (Dy ⟨3,nm,ji,ak,code,args⟩=false):=by simp[Dy,hide,Hid,e1,e2,e3,hN,hC];try omega
   clear e1 e2 e3
   try clear hN
   try clear hA
   try clear hC
   try clear hO
   go_enter Tryz.func178,Tryz.ntmps178;go_wp2_with fail;go_quiet ((fail));go_wp2;go_ret;exact⟨Jz (uh HU).symm,uz _ _⟩
 ·have g1:=O8 nm hN
  have g1b:=J8 nm hN
  have HU:Hid (Dy ⟨3,nm,ji,ak,code,args⟩=false):=by simp[Dy,hide,Hid,e1,e2,e3,hN];try omega
  clear e1 e2 e3
  try clear hN
  try clear hA
  try clear hC
  try clear hO
  go_enter Tryz.func178,Tryz.ntmps178;go_wp2_with fail;go_quiet ((fail));go_wp2;go_ret;exact⟨Jz (uh HU).symm,uz _ _⟩
theorem amy (nm:dh) (ji:Int) (ak:List dh) (code:List ku) (args:List (List ku)) (a1 a2 a3:Option Addr) (n1 n2 n3 c1 c2 c3:Nat) (e1:ak.length=n1) (e2:code.length=n2) (e3:args.length=n3) (hl1:n1<=140737488355328) (hl3:n3<=140737488355328) (b o:Nat) (w:bf)
  (q0:w.cell? ⟨b,o,none⟩=some (.int .i64 4)) (q1:w.cell? ⟨b,o+1,none⟩=some (.string nm)) (q2:w.cell? ⟨b,o+2,none⟩=some (.int .i64 ji)) (q3:w.cell? ⟨b,o+3,none⟩=some (.slice a1 n1 c1)) (q4:w.cell? ⟨b,o+4,none⟩=some (.slice a2 n2 c2)) (q5:w.cell? ⟨b,o+5,none⟩=some (.slice a3 n3 c3)) :
  Calls Tryz.prog 178 #[.pointer (some ⟨b,o,none⟩)] w (Ans (.bool (Dy ⟨4,nm,ji,ak,code,args⟩)) w):=by
 by_cases hA:ji=0
 ·have g2:(ji == 0)=true:=by rw[Fg];exact hA
  by_cases hC:n2=0
  ·have g3:((n2:Int) == 0)=true:=by rw[Fg];omega
   by_cases hO:n1+n3=0
   ·have g4:((n1:Int)+(n3:Int) == 0)=true:=by rw[Fg];omega
    have HU:Hid (Dy ⟨4,nm,ji,ak,code,args⟩=true):=by simp[Dy,hide,Hid,e1,e2,e3,hA,hC,hO,];try omega
    clear e1 e2 e3
    try clear hN
    try clear hA
    try clear hC
    try clear hO
    go_enter Tryz.func178,Tryz.ntmps178;go_wp2_with fail;go_quiet ((fail));go_wp2;go_ret;exact⟨Jz (uh HU).symm,uz _ _⟩
   ·have g4:((n1:Int)+(n3:Int) == 0)=false:=by rw[su];omega
    have HU:Hid (Dy ⟨4,nm,ji,ak,code,args⟩=false):=by simp[Dy,hide,Hid,e1,e2,e3,hA,hC,hO];try omega
    clear e1 e2 e3
    try clear hN
    try clear hA
    try clear hC
    try clear hO
    go_enter Tryz.func178,Tryz.ntmps178;go_wp2_with fail;go_quiet ((fail));go_wp2;go_ret;exact⟨Jz (uh HU).symm,uz _ _⟩
  ·have g3:((n2:Int) == 0)=false:=by rw[su];omega
   have HU:Hid (Dy ⟨4,nm,ji,ak,code,args⟩=false):=by simp[Dy,hide,Hid,e1,e2,e3,hA,hC];try omega
   clear e1 e2 e3
   try clear hN
   try clear hA
   try clear hC
   try clear hO
   go_enter Tryz.func178,Tryz.ntmps178;go_wp2_with fail;go_quiet ((fail));go_wp2;go_ret;exact⟨Jz (uh HU).symm,uz _ _⟩
 ·have g2:(ji == 0)=false:=by rw[su];exact hA
  have HU:Hid (Dy ⟨4,nm,ji,ak,code,args⟩=false):=by simp[Dy,hide,Hid,e1,e2,e3,hA];try omega
  clear e1 e2 e3
  try clear hN
  try clear hA
  try clear hC
  try clear hO
  go_enter Tryz.func178,Tryz.ntmps178;go_wp2_with fail;go_quiet ((fail));go_wp2;go_ret;exact⟨Jz (uh HU).symm,uz _ _⟩
theorem am0 (kd:Int) (alj:kd≠1) (alk:kd≠2) (alm:kd≠3) (aln:kd≠4) (nm:dh) (ji:Int) (ak:List dh) (code:List ku) (args:List (List ku)) (a1 a2 a3:Option Addr) (n1 n2 n3 c1 c2 c3:Nat) (e1:ak.length=n1) (e2:code.length=n2) (e3:args.length=n3) (hl1:n1<=140737488355328) (hl3:n3<=140737488355328) (b o:Nat) (w:bf)
  (q0:w.cell? ⟨b,o,none⟩=some (.int .i64 kd)) (q1:w.cell? ⟨b,o+1,none⟩=some (.string nm)) (q2:w.cell? ⟨b,o+2,none⟩=some (.int .i64 ji)) (q3:w.cell? ⟨b,o+3,none⟩=some (.slice a1 n1 c1)) (q4:w.cell? ⟨b,o+4,none⟩=some (.slice a2 n2 c2)) (q5:w.cell? ⟨b,o+5,none⟩=some (.slice a3 n3 c3)) :
  Calls Tryz.prog 178 #[.pointer (some ⟨b,o,none⟩)] w (Ans (.bool (Dy ⟨kd,nm,ji,ak,code,args⟩)) w):=by
 have k1:(kd == 1)=false:=by rw[su];exact alj
 have k2:(kd == 2)=false:=by rw[su];exact alk
 have k3:(kd == 3)=false:=by rw[su];exact alm
 have k4:(kd == 4)=false:=by rw[su];exact aln
 by_cases hN:nm.size=0
 ·have g1:=Nc nm hN
  have g1b:=Ja nm hN
  by_cases hA:ji=0
  ·have g2:(ji == 0)=true:=by rw[Fg];exact hA
   by_cases hC:n2=0
   ·have g3:((n2:Int) == 0)=true:=by rw[Fg];omega
    by_cases hO:n1+n3=0
    ·have g4:((n1:Int)+(n3:Int) == 0)=true:=by rw[Fg];omega
     have HU:Hid (Dy ⟨kd,nm,ji,ak,code,args⟩=true):=by simp[Dy,hide,Hid,e1,e2,e3,hN,hA,hC,hO,alj,alk,alm,aln];try omega
     clear e1 e2 e3
     try clear hN
     try clear hA
     try clear hC
     try clear hO
     go_enter Tryz.func178,Tryz.ntmps178;go_wp2_with fail;go_quiet ((fail));go_wp2;go_ret;exact⟨Jz (uh HU).symm,uz _ _⟩
    ·have g4:((n1:Int)+(n3:Int) == 0)=false:=by rw[su];omega
     have HU:Hid (Dy ⟨kd,nm,ji,ak,code,args⟩=false):=by simp[Dy,hide,Hid,e1,e2,e3,hN,hA,hC,alj,alk,alm,aln,hO];try omega
     clear e1 e2 e3
     try clear hN
     try clear hA
     try clear hC
     try clear hO
     go_enter Tryz.func178,Tryz.ntmps178;go_wp2_with fail;go_quiet ((fail));go_wp2;go_ret;exact⟨Jz (uh HU).symm,uz _ _⟩
   ·have g3:((n2:Int) == 0)=false:=by rw[su];omega
    have HU:Hid (Dy ⟨kd,nm,ji,ak,code,args⟩=false):=by simp[Dy,hide,Hid,e1,e2,e3,hN,hA,alj,alk,alm,aln,hC];try omega
    clear e1 e2 e3
    try clear hN
    try clear hA
    try clear hC
    try clear hO
    go_enter Tryz.func178,Tryz.ntmps178;go_wp2_with fail;go_quiet ((fail));go_wp2;go_ret;exact⟨Jz (uh HU).symm,uz _ _⟩
  ·have g2:(ji == 0)=false:=by rw[su];exact hA
   have HU:Hid (Dy ⟨kd,nm,ji,ak,code,args⟩=false):=by simp[Dy,hide,Hid,e1,e2,e3,hN,alj,alk,alm,aln,hA];try omega
   clear e1 e2 e3
   try clear hN
   try clear hA
   try clear hC
   try clear hO
   go_enter Tryz.func178,Tryz.ntmps178;go_wp2_with fail;go_quiet ((fail));go_wp2;go_ret;exact⟨Jz (uh HU).symm,uz _ _⟩
 ·have g1:=O8 nm hN
  have g1b:=J8 nm hN
  have HU:Hid (Dy ⟨kd,nm,ji,ak,code,args⟩=false):=by simp[Dy,hide,Hid,e1,e2,e3,alj,alk,alm,aln,hN];try omega
  clear e1 e2 e3
  try clear hN
  try clear hA
  try clear hC
  try clear hO
  go_enter Tryz.func178,Tryz.ntmps178;go_wp2_with fail;go_quiet ((fail));go_wp2;go_ret;exact⟨Jz (uh HU).symm,uz _ _⟩
def Qu (k:dw):Bool:=decide (1<=k.ak.length∧k.ins.length+k.ak.length+k.iq.length<=1000)&&((List.range k.ins.length).all (Pv [] k.ins)&&(List.range k.ak.length).all (Pv (k.ins.map jw.name) k.ak)&&(List.range k.iq.length).all (U4 (k.ins.map jw.name++k.ak.map jw.name) k.iq))
set_option maxRecDepth 20000 in
theorem atm (k:dw) (pb mb cb co:Nat) (a1 a2 a3 a4 a5 a6:Value) (W0 w:bf) (hC:CA W0 cb co k a1 a2 a3 a4 a5 a6) (hW:Below W0.heap.size W0 w) (hmb:W0.heap.size<=mb) (hpb:pb≠mb) (hc0:w.cell? ⟨pb,0,none⟩=some (.pointer (some ⟨cb,co,none⟩))) (hc1:w.cell? ⟨pb,1,none⟩=some (.map (some mb))) (hM:I5 w mb 0 (Di [])) :
  Calls Tryz.prog 126 #[.pointer (some ⟨pb,0,none⟩)] w fun e w'=>e=.returned (.bool (Qu k))∧(Qu k=true->I5 w' mb (varsOf k).length (Di (varsOf k)))∧But [mb] w w':=by
 have hpl:pb<w.heap.size:=Jl w _ hc1;have hcb:cb≠mb:=by have:=hC.lt;omega
 obtain⟨b1,n1,rfl⟩:=hC.ins.shape;obtain⟨b2,n2,rfl⟩:=hC.ak.shape;obtain⟨b3,n3,rfl⟩:=hC.iq.shape;have l1:=hC.ins.Oe;have l2:=hC.ak.Oe;have l3:=hC.iq.Oe;have hCw:=hC
 have cc:∀w',But [mb] w w'->w'.cell? ⟨cb,co+1,none⟩=some (.slice b1 k.ins.length n1)∧w'.cell? ⟨cb,co+2,none⟩=some (.slice b2 k.ak.length n2)∧w'.cell? ⟨cb,co+3,none⟩=some (.slice b3 k.iq.length n3)∧w'.cell? ⟨pb,0,none⟩=some (.pointer (some ⟨cb,co,none⟩))∧w'.cell? ⟨pb,1,none⟩=some (.map (some mb)):=fun w' h=>by
  have hb:Below W0.heap.size W0 w':=hW.trans (h.below _ hW.size (fun q hq=>by rw[yj] at hq;omega));refine⟨?_,?_,?_,?_,?_⟩
  ·rw[hb.cell (p:=⟨cb,co+1,none⟩) hC.lt];exact hC.c1
  ·rw[hb.cell (p:=⟨cb,co+2,none⟩) hC.lt];exact hC.c2
  ·rw[hb.cell (p:=⟨cb,co+3,none⟩) hC.lt];exact hC.c3
  ·rw[h.cell (p:=⟨pb,0,none⟩) hpl (by simpa using hpb)];exact hc0
  ·rw[h.cell (p:=⟨pb,1,none⟩) hpl (by simpa using hpb)];exact hc1
 have HCC:=hide cc;obtain⟨d1,d2,d3,_,_⟩:=cc w (But.refl _ _)
 have Uf:Hid (k.ins.length+k.ak.length+k.iq.length<=1000->∀n,Calls Tryz.prog 144 #[.slice b1 k.ins.length n1,.func (.func 145) #[.pointer (some ⟨pb,0,none⟩)] #[]] (w.drewN n) fun e w'=>e=.returned (.bool ((List.range k.ins.length).all (Pv [] k.ins)))∧((List.range k.ins.length).all (Pv [] k.ins)=true->I5 w' mb (0+k.ins.length) (Di ([]++k.ins.map jw.name)))∧But [mb] w w'):=fun h n=>by
  have hdn:But [mb] w (w.drewN n):=⟨rfl,rfl,rfl,gq _,fun _ _ _=>rfl⟩;refine(anb pb mb [] k.ins _ W0 (w.drewN n) hC.ins ⟨hW.os,hW.tape,hW.output,hW.size,hW.block⟩ hmb hpb (by simp;omega) hc1 (hM.block rfl)).mono ?_;rintro e w' ⟨rfl,h1,h2⟩;exact⟨rfl,h1,hdn.trans h2⟩
 have HS2:Hid (k.ins.length+k.ak.length+k.iq.length<=1000->∀w1,But [mb] w w1->I5 w1 mb (0+k.ins.length) (Di ([]++k.ins.map jw.name))->Calls Tryz.prog 144 #[.slice b2 k.ak.length n2,.func (.func 145) #[.pointer (some ⟨pb,0,none⟩)] #[]] w1 fun e w'=>e=.returned (.bool ((List.range k.ak.length).all (Pv (k.ins.map jw.name) k.ak)))∧((List.range k.ak.length).all (Pv (k.ins.map jw.name) k.ak)=true->I5 w' mb (k.ins.length+k.ak.length) (Di (k.ins.map jw.name++k.ak.map jw.name)))∧But [mb] w w'):=fun h w1 hb hM1=>by
  refine(anb pb mb (k.ins.map jw.name) k.ak _ W0 w1 hC.ak (hW.trans (hb.below _ hW.size (fun q hq=>by rw[yj] at hq;omega))) hmb hpb (by simp;omega) (cc w1 hb).2.2.2.2 (by simpa using hM1)).mono ?_;rintro e w' ⟨rfl,h1,h2⟩;exact⟨rfl,(fun g=>by simpa using h1 g),hb.trans h2⟩
 have Vo:Hid (k.ins.length+k.ak.length+k.iq.length<=1000->∀w1,But [mb] w w1->I5 w1 mb (k.ins.length+k.ak.length) (Di (k.ins.map jw.name++k.ak.map jw.name))->Calls Tryz.prog 146 #[.slice b3 k.iq.length n3,.func (.func 147) #[.pointer (some ⟨pb,0,none⟩)] #[]] w1 fun e w'=>e=.returned (.bool ((List.range k.iq.length).all (U4 (k.ins.map jw.name++k.ak.map jw.name) k.iq)))∧((List.range k.iq.length).all (U4 (k.ins.map jw.name++k.ak.map jw.name) k.iq)=true->I5 w' mb (varsOf k).length (Di (varsOf k)))∧But [mb] w w'):=fun h w1 hb hM1=>by
  refine(ayl pb mb (k.ins.map jw.name++k.ak.map jw.name) k.iq _ W0 w1 hC.iq (hW.trans (hb.below _ hW.size (fun q hq=>by rw[yj] at hq;omega))) hmb hpb (by simp;omega) (cc w1 hb).2.2.2.2 (by simpa using hM1)).mono ?_;rintro e w' ⟨rfl,h1,h2⟩;refine⟨rfl,(fun g=>?_),hb.trans h2⟩;have:=h1 g;unfold varsOf;simpa[Nat.add_assoc] using this
 have HD:Hid (Qu k=(decide (1<=k.ak.length∧k.ins.length+k.ak.length+k.iq.length<=1000)&&((List.range k.ins.length).all (Pv [] k.ins)&&(List.range k.ak.length).all (Pv (k.ins.map jw.name) k.ak)&&(List.range k.iq.length).all (U4 (k.ins.map jw.name++k.ak.map jw.name) k.iq)))):=rfl;have Vk:Hid (∀n,But [mb] w (w.drewN n)):=fun n=>⟨rfl,rfl,rfl,gq _,fun _ _ _=>rfl⟩
 clear cc hM hC hCw hW;generalize Qu k=R at *;generalize (List.range k.ins.length).all (Pv [] k.ins)=r1 at *;generalize (List.range k.ak.length).all (Pv (k.ins.map jw.name) k.ak)=r2 at *;generalize (List.range k.iq.length).all (U4 (k.ins.map jw.name++k.ak.map jw.name) k.iq)=r3 at *
 by_cases h1:k.ak.length=0
 ·have e1:((k.ak.length:Int) == 0)=true:=by rw[Fg];omega
  have HF:Hid (R=false):=(uh HD).trans (by rw[iw (by omega),Bc]);clear HD Uf HS2 Vo HCC h1;go_enter Tryz.func126,Tryz.ntmps126;go_wp2_with fail;go_quiet ((fail));go_wp2;go_ret;rw[uh HF];exact⟨rfl,(fun h=>by cases h),uh Vk _⟩
 have e1:((k.ak.length:Int) == 0)=false:=by rw[su];omega
 by_cases h2:k.ins.length+k.ak.length+k.iq.length<=1000
 case neg =>
  have e2:decide (1000<(k.ins.length:Int)+(k.ak.length:Int)+(k.iq.length:Int))=true:=jf (by omega);have HF:Hid (R=false):=(uh HD).trans (by rw[iw (by omega),Bc]);clear HD Uf HS2 Vo HCC h1 h2;go_enter Tryz.func126,Tryz.ntmps126;go_wp2_with fail;go_quiet ((fail));go_wp2;go_ret;rw[uh HF];exact⟨rfl,(fun h=>by cases h),uh Vk _⟩
 have e2:decide (1000<(k.ins.length:Int)+(k.ak.length:Int)+(k.iq.length:Int))=false:=iw (by omega);have HF:Hid (R=(r1&&r2&&r3)):=(uh HD).trans (by rw[jf (by omega),Ar]);have bb4:=hide (uh Uf h2);have bb5:=hide (uh HS2 h2);have bb6:=hide (uh Vo h2);clear HD Uf HS2 Vo h1 h2;go_enter Tryz.func126,Tryz.ntmps126;go_wp2_with fail;go_quiet ((fail));go_wp2_with fail;refine(uh bb4 _).mono ?_;rintro e w1 ⟨rfl,hm1,hb1⟩;have HM1:=hide hm1;have HB1:=hide hb1;obtain⟨p1,p2,p3,p4,p5⟩:=uh HCC w1 hb1;clear hm1 hb1 bb4
 cases r1
 ·go_wp2
  go_ret;rw[uh HF];exact⟨rfl,(fun h=>by cases h),uh HB1⟩
 have HS2:=hide (uh bb5 w1 (uh HB1) (uh HM1 rfl));clear HM1 bb5;go_wp2_with fail;refine(uh HS2).mono ?_;rintro e w2 ⟨rfl,hm2,hb2⟩;have HM2:=hide hm2;have HB2:=hide hb2;obtain⟨q1,q2,q3,q4,q5⟩:=uh HCC w2 hb2;clear hm2 hb2 HS2
 cases r2
 ·go_wp2
  go_ret;rw[uh HF];exact⟨rfl,(fun h=>by cases h),uh HB2⟩
 have Vo:=hide (uh bb6 w2 (uh HB2) (uh HM2 rfl));clear HM2 bb6;go_wp2_with fail;refine(uh Vo).mono ?_;rintro e w3 ⟨rfl,hm3,hb3⟩;have HM3:=hide hm3;have HB3:=hide hb3;clear hm3 hb3 Vo;go_wp2;go_ret;rw[uh HF];exact⟨rfl,(fun h=>uh HM3 (by simpa using h)),uh HB3⟩
structure PR (w:bf) (pb mb cb co:Nat) (k:dw):Prop where
 p0:w.cell? ⟨pb,0,none⟩=some (.pointer (some ⟨cb,co,none⟩))
 p1:w.cell? ⟨pb,1,none⟩=some (.map (some mb))
 c4:∃b c,w.cell? ⟨cb,co+4,none⟩=some (.slice b k.eu.length c)
 ml:k.eu.length<=140737488355328
 map:I5 w mb (varsOf k).length (Di (varsOf k))
theorem PR.stays {w w':bf} {pb mb cb co:Nat} {k:dw} (h:PR w pb mb cb co k) (hb:Below w.heap.size w w'):PR w' pb mb cb co k:=by
 obtain⟨b,c,hc⟩:=h.c4;exact⟨(hb.cell (p:=⟨pb,0,none⟩) (Jl w _ h.p0)).trans h.p0,(hb.cell (p:=⟨pb,1,none⟩) (Jl w _ h.p1)).trans h.p1,⟨b,c,(hb.cell (p:=⟨cb,co+4,none⟩) (Jl w _ hc)).trans hc⟩,h.ml,h.map.below hb h.map.lt⟩
def aad (k:dw) (t:ku):Bool :=
 if t.op=25 then decide (t.name.size=0)&&decide (0<=t.val)&&decide (t.val<(k.eu.length:Int))
 else if 20<t.op then false else if itB t=false then false
 else if t.op=3 then decide (0<=jd (varsOf k) t.name) else true
theorem aqa (k:dw) (t:ku) (pb mb cb co:Nat) (w:bf) (h:PR w pb mb cb co k) (hs:Len t.name.size) :
  Calls Tryz.prog 190 #[.pointer (some ⟨pb,0,none⟩),.agg #[.int .i64 t.op,.int .i64 t.val,.string t.name]] w (Ans (.bool (aad k t)) w):=by
 have hs':t.name.size<=maxLen:=by unfold Len at hs;unfold maxLen;omega
 have hA:Below w.heap.size w (w.alloc (.cells #[.int .i64 t.op,.int .i64 t.val,.string t.name] 83)):=(gy _ _).alloc (gq _) _;have h':=h.stays hA;have p0:=h.p0;have p1:=h.p1;have hp:=Jl w _ h.p0;obtain⟨mbb,mcc,c4⟩:=h.c4;have hcl:=Jl w _ c4;have ml:=h.ml;have HMP:=hide h'.map;have HI:=hide (fun w=>avf t w hs);have HE:Hid (aad k t=if t.op=25 then decide (t.name.size=0)&&decide (0<=t.val)&&decide (t.val<(k.eu.length:Int)) else if 20<t.op then false else if itB t=false then false else if t.op=3 then decide (0<=jd (varsOf k) t.name) else true):=rfl;have HA:=hide hA;generalize aad k t=R at *;generalize itB t=ib at *;obtain⟨op,val,nm⟩:=t;simp only at *;clear h h' hA
 by_cases Sj:op=25
 ·subst Sj
  have HR:Hid (R=(decide (nm.size=0)&&decide (0<=val)&&decide (val<(k.eu.length:Int)))):=(uh HE).trans (gu rfl);clear HE HI HMP
  by_cases hN:nm.size=0
  ·have g1:=Nc nm hN
   have g1b:=Ja nm hN;have HR2:Hid (R=(decide (0<=val)&&decide (val<(k.eu.length:Int)))):=(uh HR).trans (by rw[jf hN,Ar]);clear HR hN
   by_cases h0:0<=val
   ·have g2:decide (0<=val)=true:=jf h0
    have HR3:Hid (R=decide (val<(k.eu.length:Int))):=(uh HR2).trans (by rw[g2,Ar]);clear HR2
    by_cases hm:val<(k.eu.length:Int)
    ·have g3:decide (val<(k.eu.length:Int))=true:=jf hm
     have HF:Hid (R=true):=(uh HR3).trans g3;clear HR3;go_enter Tryz.func190,Tryz.ntmps190;go_wp2_with fail;go_quiet ((fail));go_wp2;go_ret;exact⟨Nu (uh HF).symm,below_drewN (uh HA) _⟩
    ·have g3:decide (val<(k.eu.length:Int))=false:=iw hm
     have HF:Hid (R=false):=(uh HR3).trans g3;clear HR3;go_enter Tryz.func190,Tryz.ntmps190;go_wp2_with fail;go_quiet ((fail));go_wp2;go_ret;exact⟨Nu (uh HF).symm,below_drewN (uh HA) _⟩
   ·have g2:decide (0<=val)=false:=iw h0
    have HF:Hid (R=false):=(uh HR2).trans (by rw[g2,Bc]);clear HR2;go_enter Tryz.func190,Tryz.ntmps190;go_wp2_with fail;go_quiet ((fail));go_wp2;go_ret;exact⟨Nu (uh HF).symm,below_drewN (uh HA) _⟩
  ·have g1:=O8 nm hN
   have g1b:=J8 nm hN;have HF:Hid (R=false):=(uh HR).trans (by rw[iw hN];rfl);clear HR hN;go_enter Tryz.func190,Tryz.ntmps190;go_wp2_with fail;go_quiet ((fail));go_wp2;go_ret;exact⟨Nu (uh HF).symm,below_drewN (uh HA) _⟩
 have b25:(op == 25)=false:=by rw[su];exact Sj
 have HR:Hid (R=if 20<op then false else if ib=false then false else if op=3 then decide (0<=jd (varsOf k) nm) else true):=(uh HE).trans (ay Sj);clear HE Sj
 by_cases h20:20<op
 ·have g2:decide (20<op)=true:=jf h20
  have HF:Hid (R=false):=(uh HR).trans (gu h20);clear HR HMP HI;go_enter Tryz.func190,Tryz.ntmps190;go_wp2;go_ret;exact⟨Nu (uh HF).symm,uh HA⟩
 have g2:decide (20<op)=false:=iw h20;have HR2:Hid (R=if ib=false then false else if op=3 then decide (0<=jd (varsOf k) nm) else true):=(uh HR).trans (ay h20);clear HR h20
 cases ib
 ·have HF:Hid (R=false):=(uh HR2).trans (gu rfl)
  clear HR2 HMP;go_enter Tryz.func190,Tryz.ntmps190;go_wp2_with fail;refine(uh HI _).mono ?_;rintro e w1 ⟨rfl,hb1⟩;have HB:=hide ((uh HA).trans (hb1.mono (uh HA).size));clear hb1;go_wp2;go_ret;exact⟨Nu (uh HF).symm,uh HB⟩
 have HR3:Hid (R=if op=3 then decide (0<=jd (varsOf k) nm) else true):=(uh HR2).trans (ay (by decide));have Ef:=hide (og w #[.int .i64 op,.int .i64 val,.string nm] 83);clear HR2
 by_cases h3:op=3
 ·subst h3
  have HR4:Hid (R=decide (0<=jd (varsOf k) nm)):=(uh HR3).trans (gu rfl);clear HR3
  by_cases hpl:0<=jd (varsOf k) nm
  ·have HF:Hid (R=true):=(uh HR4).trans (jf hpl)
   have HNF:=hide (aej _ _ hpl);clear HR4;generalize jd (varsOf k) nm=pl at *;go_enter Tryz.func190,Tryz.ntmps190;go_wp2_with fail;refine(uh HI _).mono ?_;rintro e w1 ⟨rfl,hb1⟩;have HB:=hide ((uh HA).trans (hb1.mono (uh HA).size));have q1:w1.cell? ⟨pb,1,none⟩=some (.map (some mb)):=by rw[(uh HB).cell (p:=⟨pb,1,none⟩) hp];exact p1
   have k1:jc w1 w.heap.size 83 #[.int .i64 3,.int .i64 val,.string nm]:=(uh Ef).below hb1 (uh Ef).lt;have x0:=k1.cell (i:=0) (v:=.int .i64 3) rfl;have x2:=k1.cell (i:=2) (v:=.string nm) rfl
   have hlk:∀n,(Instr.lookup 33 (.map (some mb)) (.string nm) true).run Tryz.prog (w1.drewN n)=.ok (.tuple #[.int .i64 pl,.bool true]) (w1.drewN n):=fun n =>
    Jp.hit (w:=w1.drewN n) (((uh HMP).below hb1 (uh HMP).lt).block rfl) Tryz.underlying9 Tryz.underlying33 (Ye _) hs' (uh HNF)
   clear hb1 k1 HMP HNF;go_wp2_with fail;go_quiet ((fail));go_wp2;go_ret;exact⟨Nu (uh HF).symm,below_drewN (uh HB) _⟩
  ·have HF:Hid (R=false):=(uh HR4).trans (iw hpl)
   have HNF:=hide (ac3 (varsOf k) nm (by omega));clear HR4 hpl;go_enter Tryz.func190,Tryz.ntmps190;go_wp2_with fail;refine(uh HI _).mono ?_;rintro e w1 ⟨rfl,hb1⟩;have HB:=hide ((uh HA).trans (hb1.mono (uh HA).size));have q1:w1.cell? ⟨pb,1,none⟩=some (.map (some mb)):=by rw[(uh HB).cell (p:=⟨pb,1,none⟩) hp];exact p1
   have k1:jc w1 w.heap.size 83 #[.int .i64 3,.int .i64 val,.string nm]:=(uh Ef).below hb1 (uh Ef).lt;have x0:=k1.cell (i:=0) (v:=.int .i64 3) rfl;have x2:=k1.cell (i:=2) (v:=.string nm) rfl
   have hlk:∀n,(Instr.lookup 33 (.map (some mb)) (.string nm) true).run Tryz.prog (w1.drewN n)=.ok (.tuple #[.int .i64 0,.bool false]) (w1.drewN n):=fun n =>
    Jp.miss (w:=w1.drewN n) (((uh HMP).below hb1 (uh HMP).lt).block rfl) Tryz.underlying9 Tryz.underlying33 (Ye _) hs' (uh HNF)
   clear hb1 k1 HMP HNF;go_wp2_with fail;go_quiet ((fail));go_wp2;go_ret;exact⟨Nu (uh HF).symm,below_drewN (uh HB) _⟩
 ·have b3:(op == 3)=false:=by rw[su];exact h3
  have HF:Hid (R=true):=(uh HR3).trans (ay h3);clear HR3 h3;go_enter Tryz.func190,Tryz.ntmps190;go_wp2_with fail;refine(uh HI _).mono ?_;rintro e w1 ⟨rfl,hb1⟩;have HB:=hide ((uh HA).trans (hb1.mono (uh HA).size));have k1:jc w1 w.heap.size 83 #[.int .i64 op,.int .i64 val,.string nm]:=(uh Ef).below hb1 (uh Ef).lt;have x0:=k1.cell (i:=0) (v:=.int .i64 op) rfl;clear hb1 k1 HMP;go_wp2;go_ret;exact⟨Nu (uh HF).symm,uh HB⟩
end Go.Proofs.YtfeejeflmcapoaaGreatDoor
