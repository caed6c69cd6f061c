import Derived.Test.YtlcgnbcgmljpaaaGreatData
import Derived.Test.YtlcgnbcgmljpaaaGreatEvery
import Derived.Test.YtlcgnbcgmljpaaaGreatM2
import Derived.Deep.QuietTactic
import Derived.BigQuiet
namespace Go.Proofs.YtlcgnbcgmljpaaaGreat
open Go.RowKit
set_option linter.unusedSimpArgs false
set_option linter.unusedVariables false
def xg (s:dh):Bool :=
 (decide (s.kind=1∨s.kind=4)||decide (s.name.size=0))&&(decide (s.kind=2∨s.kind=3)||decide (s.at_=0))&&(decide (s.kind=1∨s.kind=2)||decide (s.code.length=0))&&(decide (s.kind=3)||decide (s.outs.length+s.args.length=0))
theorem jw (w:World) (n:Nat):Below w.heap.size w (w.drewN n):=⟨rfl,rfl,rfl,Nat.le_refl _,fun _ _=>rfl⟩
theorem Ce {a b:Bool} (h:a=b):Ending.returned (.bool a)=.returned (.bool b):=by rw[h]
set_option maxHeartbeats 4000000 in
theorem ahk (nm:ByteArray) (eu:Int) (outs:List ByteArray) (code:List iw) (args:List (List iw)) (a1 a2 a3:Option Addr) (n1 n2 n3 c1 c2 c3:Nat) (e1:outs.length=n1) (e2:code.length=n2) (e3:args.length=n3) (hl1:n1<=140737488355328) (hl3:n3<=140737488355328) (b o:Nat) (w:World)
  (q0:w.cell? ⟨b,o,none⟩=some (.int .i64 1)) (q1:w.cell? ⟨b,o+1,none⟩=some (.string nm)) (q2:w.cell? ⟨b,o+2,none⟩=some (.int .i64 eu)) (q3:w.cell? ⟨b,o+3,none⟩=some (.slice a1 n1 c1)) (q4:w.cell? ⟨b,o+4,none⟩=some (.slice a2 n2 c2)) (q5:w.cell? ⟨b,o+5,none⟩=some (.slice a3 n3 c3)) :
  Calls Tryz.prog 137 #[.pointer (some ⟨b,o,none⟩)] w (Ans (.bool (xg ⟨1,nm,eu,outs,code,args⟩)) w):=by
 by_cases hA:eu=0
 ·have g2:(eu == 0)=true:=by rw[beq_iff_eq];exact hA
  by_cases hO:n1+n3=0
  ·have g4:((n1:Int)+(n3:Int) == 0)=true:=by rw[beq_iff_eq];omega
   have HU:Hid (xg ⟨1,nm,eu,outs,code,args⟩=true):=by simp[xg,hide,Hid,e1,e2,e3,hA,hO,];try omega
   clear e1 e2 e3
   try clear hN
   try clear hA
   try clear hC
   try clear hO
   go_enter Tryz.func137,Tryz.ntmps137
   go_wp2_with fail
   go_quiet ((fail))
   go_wp2
   go_ret
   exact⟨Ce (uh HU).symm,jw _ _⟩
  ·have g4:((n1:Int)+(n3:Int) == 0)=false:=by rw[beq_eq_false_iff_ne];omega
   have HU:Hid (xg ⟨1,nm,eu,outs,code,args⟩=false):=by simp[xg,hide,Hid,e1,e2,e3,hA,hO];try omega
   clear e1 e2 e3
   try clear hN
   try clear hA
   try clear hC
   try clear hO
   go_enter Tryz.func137,Tryz.ntmps137
   go_wp2_with fail
   go_quiet ((fail))
   go_wp2
   go_ret
   exact⟨Ce (uh HU).symm,jw _ _⟩
 ·have g2:(eu == 0)=false:=by rw[beq_eq_false_iff_ne];exact hA
  have HU:Hid (xg ⟨1,nm,eu,outs,code,args⟩=false):=by simp[xg,hide,Hid,e1,e2,e3,hA];try omega
  clear e1 e2 e3
  try clear hN
  try clear hA
  try clear hC
  try clear hO
  go_enter Tryz.func137,Tryz.ntmps137
  go_wp2_with fail
  go_quiet ((fail))
  go_wp2
  go_ret
  exact⟨Ce (uh HU).symm,jw _ _⟩
set_option maxHeartbeats 4000000 in
theorem ahl (nm:ByteArray) (eu:Int) (outs:List ByteArray) (code:List iw) (args:List (List iw)) (a1 a2 a3:Option Addr) (n1 n2 n3 c1 c2 c3:Nat) (e1:outs.length=n1) (e2:code.length=n2) (e3:args.length=n3) (hl1:n1<=140737488355328) (hl3:n3<=140737488355328) (b o:Nat) (w:World)
  (q0:w.cell? ⟨b,o,none⟩=some (.int .i64 2)) (q1:w.cell? ⟨b,o+1,none⟩=some (.string nm)) (q2:w.cell? ⟨b,o+2,none⟩=some (.int .i64 eu)) (q3:w.cell? ⟨b,o+3,none⟩=some (.slice a1 n1 c1)) (q4:w.cell? ⟨b,o+4,none⟩=some (.slice a2 n2 c2)) (q5:w.cell? ⟨b,o+5,none⟩=some (.slice a3 n3 c3)) :
  Calls Tryz.prog 137 #[.pointer (some ⟨b,o,none⟩)] w (Ans (.bool (xg ⟨2,nm,eu,outs,code,args⟩)) w):=by
 by_cases hN:nm.size=0
 ·have g1:=Ea nm hN
  have g1b:=Bg nm hN
  by_cases hO:n1+n3=0
  ·have g4:((n1:Int)+(n3:Int) == 0)=true:=by rw[beq_iff_eq];omega
   have HU:Hid (xg ⟨2,nm,eu,outs,code,args⟩=true):=by simp[xg,hide,Hid,e1,e2,e3,hN,hO,];try omega
   clear e1 e2 e3
   try clear hN
   try clear hA
   try clear hC
   try clear hO
   go_enter Tryz.func137,Tryz.ntmps137
   go_wp2_with fail
   go_quiet ((fail))
   go_wp2
   go_ret
   exact⟨Ce (uh HU).symm,jw _ _⟩
  ·have g4:((n1:Int)+(n3:Int) == 0)=false:=by rw[beq_eq_false_iff_ne];omega
   have HU:Hid (xg ⟨2,nm,eu,outs,code,args⟩=false):=by simp[xg,hide,Hid,e1,e2,e3,hN,hO];try omega
   clear e1 e2 e3
   try clear hN
   try clear hA
   try clear hC
   try clear hO
   go_enter Tryz.func137,Tryz.ntmps137
   go_wp2_with fail
   go_quiet ((fail))
   go_wp2
   go_ret
   exact⟨Ce (uh HU).symm,jw _ _⟩
 ·have g1:=Gg nm hN
  have g1b:=Cj nm hN
  have HU:Hid (xg ⟨2,nm,eu,outs,code,args⟩=false):=by simp[xg,hide,Hid,e1,e2,e3,hN];try omega
  clear e1 e2 e3
  try clear hN
  try clear hA
  try clear hC
  try clear hO
  go_enter Tryz.func137,Tryz.ntmps137
  go_wp2_with fail
  go_quiet ((fail))
  go_wp2
  go_ret
  exact⟨Ce (uh HU).symm,jw _ _⟩
set_option maxHeartbeats 4000000 in
theorem ahm (nm:ByteArray) (eu:Int) (outs:List ByteArray) (code:List iw) (args:List (List iw)) (a1 a2 a3:Option Addr) (n1 n2 n3 c1 c2 c3:Nat) (e1:outs.length=n1) (e2:code.length=n2) (e3:args.length=n3) (hl1:n1<=140737488355328) (hl3:n3<=140737488355328) (b o:Nat) (w:World)
  (q0:w.cell? ⟨b,o,none⟩=some (.int .i64 3)) (q1:w.cell? ⟨b,o+1,none⟩=some (.string nm)) (q2:w.cell? ⟨b,o+2,none⟩=some (.int .i64 eu)) (q3:w.cell? ⟨b,o+3,none⟩=some (.slice a1 n1 c1)) (q4:w.cell? ⟨b,o+4,none⟩=some (.slice a2 n2 c2)) (q5:w.cell? ⟨b,o+5,none⟩=some (.slice a3 n3 c3)) :
  Calls Tryz.prog 137 #[.pointer (some ⟨b,o,none⟩)] w (Ans (.bool (xg ⟨3,nm,eu,outs,code,args⟩)) w):=by
 by_cases hN:nm.size=0
 ·have g1:=Ea nm hN
  have g1b:=Bg nm hN
  by_cases hC:n2=0
  ·have g3:((n2:Int) == 0)=true:=by rw[beq_iff_eq];omega
   have HU:Hid (xg ⟨3,nm,eu,outs,code,args⟩=true):=by simp[xg,hide,Hid,e1,e2,e3,hN,hC,];try omega
   clear e1 e2 e3
   try clear hN
   try clear hA
   try clear hC
   try clear hO
   go_enter Tryz.func137,Tryz.ntmps137
   go_wp2_with fail
   go_quiet ((fail))
   go_wp2
   go_ret
   exact⟨Ce (uh HU).symm,jw _ _⟩
  ·have g3:((n2:Int) == 0)=false:=by rw[beq_eq_false_iff_ne];omega
   have HU:Hid (xg ⟨3,nm,eu,outs,code,args⟩=false):=by simp[xg,hide,Hid,e1,e2,e3,hN,hC];try omega
   clear e1 e2 e3
   try clear hN
   try clear hA
   try clear hC
   try clear hO
   go_enter Tryz.func137,Tryz.ntmps137
   go_wp2_with fail
   go_quiet ((fail))
   go_wp2
   go_ret
   exact⟨Ce (uh HU).symm,jw _ _⟩
 ·have g1:=Gg nm hN
  have g1b:=Cj nm hN
  have HU:Hid (xg ⟨3,nm,eu,outs,code,args⟩=false):=by simp[xg,hide,Hid,e1,e2,e3,hN];try omega
  clear e1 e2 e3
  try clear hN
  try clear hA
  try clear hC
  try clear hO
  go_enter Tryz.func137,Tryz.ntmps137
  go_wp2_with fail
  go_quiet ((fail))
  go_wp2
  go_ret
  exact⟨Ce (uh HU).symm,jw _ _⟩
set_option maxHeartbeats 4000000 in
theorem ahn (nm:ByteArray) (eu:Int) (outs:List ByteArray) (code:List iw) (args:List (List iw)) (a1 a2 a3:Option Addr) (n1 n2 n3 c1 c2 c3:Nat) (e1:outs.length=n1) (e2:code.length=n2) (e3:args.length=n3) (hl1:n1<=140737488355328) (hl3:n3<=140737488355328) (b o:Nat) (w:World)
  (q0:w.cell? ⟨b,o,none⟩=some (.int .i64 4)) (q1:w.cell? ⟨b,o+1,none⟩=some (.string nm)) (q2:w.cell? ⟨b,o+2,none⟩=some (.int .i64 eu)) (q3:w.cell? ⟨b,o+3,none⟩=some (.slice a1 n1 c1)) (q4:w.cell? ⟨b,o+4,none⟩=some (.slice a2 n2 c2)) (q5:w.cell? ⟨b,o+5,none⟩=some (.slice a3 n3 c3)) :
  Calls Tryz.prog 137 #[.pointer (some ⟨b,o,none⟩)] w (Ans (.bool (xg ⟨4,nm,eu,outs,code,args⟩)) w):=by
 by_cases hA:eu=0
 ·have g2:(eu == 0)=true:=by rw[beq_iff_eq];exact hA
  by_cases hC:n2=0
  ·have g3:((n2:Int) == 0)=true:=by rw[beq_iff_eq];omega
   by_cases hO:n1+n3=0
   ·have g4:((n1:Int)+(n3:Int) == 0)=true:=by rw[beq_iff_eq];omega
    have HU:Hid (xg ⟨4,nm,eu,outs,code,args⟩=true):=by simp[xg,hide,Hid,e1,e2,e3,hA,hC,hO,];try omega
    clear e1 e2 e3
    try clear hN
    try clear hA
    try clear hC
    try clear hO
    go_enter Tryz.func137,Tryz.ntmps137
    go_wp2_with fail
    go_quiet ((fail))
    go_wp2
    go_ret
    exact⟨Ce (uh HU).symm,jw _ _⟩
   ·have g4:((n1:Int)+(n3:Int) == 0)=false:=by rw[beq_eq_false_iff_ne];omega
    have HU:Hid (xg ⟨4,nm,eu,outs,code,args⟩=false):=by simp[xg,hide,Hid,e1,e2,e3,hA,hC,hO];try omega
    clear e1 e2 e3
    try clear hN
    try clear hA
    try clear hC
    try clear hO
    go_enter Tryz.func137,Tryz.ntmps137
    go_wp2_with fail
    go_quiet ((fail))
    go_wp2
    go_ret
    exact⟨Ce (uh HU).symm,jw _ _⟩
  ·have g3:((n2:Int) == 0)=false:=by rw[beq_eq_false_iff_ne];omega
   have HU:Hid (xg ⟨4,nm,eu,outs,code,args⟩=false):=by simp[xg,hide,Hid,e1,e2,e3,hA,hC];try omega
   clear e1 e2 e3
   try clear hN
   try clear hA
   try clear hC
   try clear hO
   go_enter Tryz.func137,Tryz.ntmps137
   go_wp2_with fail
   go_quiet ((fail))
   go_wp2
   go_ret
   exact⟨Ce (uh HU).symm,jw _ _⟩
 ·have g2:(eu == 0)=false:=by rw[beq_eq_false_iff_ne];exact hA
  have HU:Hid (xg ⟨4,nm,eu,outs,code,args⟩=false):=by simp[xg,hide,Hid,e1,e2,e3,hA];try omega
  clear e1 e2 e3
  try clear hN
  try clear hA
  try clear hC
  try clear hO
  go_enter Tryz.func137,Tryz.ntmps137
  go_wp2_with fail
  go_quiet ((fail))
  go_wp2
  go_ret
  exact⟨Ce (uh HU).symm,jw _ _⟩
set_option maxHeartbeats 4000000 in
theorem aho (kd:Int) (aga:kd≠1) (agb:kd≠2) (agc:kd≠3) (agd:kd≠4) (nm:ByteArray) (eu:Int) (outs:List ByteArray) (code:List iw) (args:List (List iw)) (a1 a2 a3:Option Addr) (n1 n2 n3 c1 c2 c3:Nat) (e1:outs.length=n1) (e2:code.length=n2) (e3:args.length=n3) (hl1:n1<=140737488355328) (hl3:n3<=140737488355328) (b o:Nat) (w:World)
  (q0:w.cell? ⟨b,o,none⟩=some (.int .i64 kd)) (q1:w.cell? ⟨b,o+1,none⟩=some (.string nm)) (q2:w.cell? ⟨b,o+2,none⟩=some (.int .i64 eu)) (q3:w.cell? ⟨b,o+3,none⟩=some (.slice a1 n1 c1)) (q4:w.cell? ⟨b,o+4,none⟩=some (.slice a2 n2 c2)) (q5:w.cell? ⟨b,o+5,none⟩=some (.slice a3 n3 c3)) :
  Calls Tryz.prog 137 #[.pointer (some ⟨b,o,none⟩)] w (Ans (.bool (xg ⟨kd,nm,eu,outs,code,args⟩)) w):=by
 have k1:(kd == 1)=false:=by rw[beq_eq_false_iff_ne];exact aga
 have k2:(kd == 2)=false:=by rw[beq_eq_false_iff_ne];exact agb
 have k3:(kd == 3)=false:=by rw[beq_eq_false_iff_ne];exact agc
 have k4:(kd == 4)=false:=by rw[beq_eq_false_iff_ne];exact agd
 by_cases hN:nm.size=0
 ·have g1:=Ea nm hN
  have g1b:=Bg nm hN
  by_cases hA:eu=0
  ·have g2:(eu == 0)=true:=by rw[beq_iff_eq];exact hA
   by_cases hC:n2=0
   ·have g3:((n2:Int) == 0)=true:=by rw[beq_iff_eq];omega
    by_cases hO:n1+n3=0
    ·have g4:((n1:Int)+(n3:Int) == 0)=true:=by rw[beq_iff_eq];omega
     have HU:Hid (xg ⟨kd,nm,eu,outs,code,args⟩=true):=by simp[xg,hide,Hid,e1,e2,e3,hN,hA,hC,hO,aga,agb,agc,agd];try omega
     clear e1 e2 e3
     try clear hN
     try clear hA
     try clear hC
     try clear hO
     go_enter Tryz.func137,Tryz.ntmps137
     go_wp2_with fail
     go_quiet ((fail))
     go_wp2
     go_ret
     exact⟨Ce (uh HU).symm,jw _ _⟩
    ·have g4:((n1:Int)+(n3:Int) == 0)=false:=by rw[beq_eq_false_iff_ne];omega
     have HU:Hid (xg ⟨kd,nm,eu,outs,code,args⟩=false):=by simp[xg,hide,Hid,e1,e2,e3,hN,hA,hC,aga,agb,agc,agd,hO];try omega
     clear e1 e2 e3
     try clear hN
     try clear hA
     try clear hC
     try clear hO
     go_enter Tryz.func137,Tryz.ntmps137
     go_wp2_with fail
     go_quiet ((fail))
     go_wp2
     go_ret
     exact⟨Ce (uh HU).symm,jw _ _⟩
   ·have g3:((n2:Int) == 0)=false:=by rw[beq_eq_false_iff_ne];omega
    have HU:Hid (xg ⟨kd,nm,eu,outs,code,args⟩=false):=by simp[xg,hide,Hid,e1,e2,e3,hN,hA,aga,agb,agc,agd,hC];try omega
    clear e1 e2 e3
    try clear hN
    try clear hA
    try clear hC
    try clear hO
    go_enter Tryz.func137,Tryz.ntmps137
    go_wp2_with fail
    go_quiet ((fail))
    go_wp2
    go_ret
    exact⟨Ce (uh HU).symm,jw _ _⟩
  ·have g2:(eu == 0)=false:=by rw[beq_eq_false_iff_ne];exact hA
   have HU:Hid (xg ⟨kd,nm,eu,outs,code,args⟩=false):=by simp[xg,hide,Hid,e1,e2,e3,hN,aga,agb,agc,agd,hA];try omega
   clear e1 e2 e3
   try clear hN
   try clear hA
   try clear hC
   try clear hO
   go_enter Tryz.func137,Tryz.ntmps137
   go_wp2_with fail
   go_quiet ((fail))
   go_wp2
   go_ret
   exact⟨Ce (uh HU).symm,jw _ _⟩
 ·have g1:=Gg nm hN
  have g1b:=Cj nm hN
  have HU:Hid (xg ⟨kd,nm,eu,outs,code,args⟩=false):=by simp[xg,hide,Hid,e1,e2,e3,aga,agb,agc,agd,hN];try omega
  clear e1 e2 e3
  try clear hN
  try clear hA
  try clear hC
  try clear hO
  go_enter Tryz.func137,Tryz.ntmps137
  go_wp2_with fail
  go_quiet ((fail))
  go_wp2
  go_ret
  exact⟨Ce (uh HU).symm,jw _ _⟩
end Go.Proofs.YtlcgnbcgmljpaaaGreat
