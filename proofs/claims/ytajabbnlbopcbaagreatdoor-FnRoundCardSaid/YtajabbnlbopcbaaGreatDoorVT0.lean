import Derived.Test.YtajabbnlbopcbaaGreatDoorV3
namespace Go.Proofs.YtajabbnlbopcbaaGreatDoor
open Go.RowKit
set_option linter.unusedSimpArgs false
set_option linter.unusedVariables false
def rtC : Nat → Code → Code
 | 0,c => c
 | n + 1,.seq _ b => rtC n b
 | _ + 1,c => c
def lfC : Code → Code
 | .seq a _ => a
 | c => c
def inC : Code → Code
 | .block _ c => c
 | .loop c => c
 | .scope c => c
 | c => c
set_option maxRecDepth 100000 in
def FrE (u : Nat → Value) : Act:=⟨#[u 0,u 1,u 2,u 3,u 4,u 5,u 6,u 7,u 8,u 9,u 10,u 11,u 12,u 13,u 14,u 15,u 16,u 17,u 18,u 19,u 20,u 21,u 22,u 23,u 24,u 25,u 26,u 27,u 28,u 29,u 30,u 31,u 32,u 33,u 34,u 35,u 36,u 37,u 38,u 39,u 40,u 41,u 42,u 43,u 44,u 45,u 46,u 47,u 48,u 49,u 50,u 51,u 52,u 53,u 54,u 55,u 56,u 57,u 58,u 59,u 60,u 61,u 62,u 63,u 64,u 65,u 66,u 67,u 68,u 69,u 70,u 71,u 72,u 73,u 74,u 75,u 76,u 77,u 78,u 79,u 80,u 81,u 82,u 83,u 84,u 85,u 86,u 87,u 88,u 89,u 90,u 91,u 92,u 93,u 94,u 95,u 96,u 97,u 98,u 99,u 100,u 101,u 102,u 103,u 104,u 105,u 106,u 107,u 108,u 109,u 110,u 111,u 112,u 113,u 114,u 115,u 116,u 117,u 118,u 119,u 120,u 121,u 122,u 123,u 124,u 125,u 126,u 127,u 128,u 129,u 130,u 131,u 132,u 133,u 134,u 135,u 136,u 137,u 138,u 139,u 140,u 141,u 142,u 143,u 144,u 145,u 146,u 147,u 148,u 149,u 150,u 151,u 152,u 153,u 154,u 155,u 156,u 157,u 158,u 159,u 160,u 161,u 162,u 163,u 164,u 165,u 166,u 167,u 168,u 169,u 170,u 171,u 172,u 173,u 174,u 175,u 176,u 177,u 178,u 179,u 180,u 181,u 182,u 183,u 184,u 185,u 186,u 187,u 188,u 189,u 190,u 191,u 192,u 193,u 194,u 195,u 196,u 197,u 198,u 199,u 200,u 201,u 202,u 203,u 204,u 205,u 206,u 207,u 208,u 209,u 210,u 211,u 212,u 213,u 214,u 215,u 216,u 217,u 218,u 219,u 220,u 221,u 222,u 223,u 224,u 225,u 226,u 227,u 228,u 229,u 230,u 231,u 232,u 233,u 234,u 235,u 236,u 237,u 238,u 239,u 240,u 241,u 242,u 243,u 244,u 245,u 246,u 247,u 248,u 249,u 250,u 251,u 252,u 253,u 254,u 255,u 256,u 257,u 258,u 259,u 260,u 261,u 262,u 263,u 264,u 265,u 266,u 267,u 268,u 269,u 270,u 271,u 272,u 273,u 274,u 275,u 276,u 277,u 278,u 279,u 280,u 281,u 282,u 283,u 284,u 285,u 286,u 287,u 288,u 289,u 290,u 291,u 292,u 293,u 294,u 295,u 296,u 297,u 298,u 299,u 300,u 301,u 302,u 303,u 304,u 305,u 306,u 307,u 308,u 309,u 310,u 311,u 312,u 313,u 314,u 315,u 316,u 317,u 318,u 319,u 320,u 321,u 322],[]⟩
theorem arr_lit (x : Array Value) : x = ((List.range x.size).map (fun i => x.getD i undef)).toArray:=by
 refine Array.ext (by simp) (fun i h1 h2 => ?_)
 simp only [List.getElem_toArray,List.getElem_map,List.getElem_range]
 simp [Array.getD,h1]
set_option maxRecDepth 1000000 in
theorem frE_mk (x : Array Value) (hs : x.size = 323) : (⟨x,[]⟩ : Act) = FrE (fun i => x.getD i undef):=by
 have h:=arr_lit x
 rw [hs] at h
 generalize (fun i => x.getD i undef) = g at h ⊢
 rw [h]
 rfl
end Go.Proofs.YtajabbnlbopcbaaGreatDoor
namespace Go.Proofs.YtajabbnlbopcbaaGreatDoor
open Go.RowKit
set_option linter.unusedSimpArgs false
set_option linter.unusedVariables false
section
variable {code : List Int} {W0 : World} {cb : Nat} {cv : Value} {w : World} {c c' : Cur} {vs : List DVar} {sv kv : Value} {k : List DCond} {b7 rank : Nat} {X Y : World}
set_option maxRecDepth 1000000 in
set_option maxHeartbeats 8000000 in
theorem exp_neg {f : Nat} (hf : f ≤ 5) {d : Int} (hd0 : 0 ≤ d) (hd5 : d ≤ 5) (hC : ExC code W0 cb cv vs rank f (d + 1)) {kind : Int} {late : Bool} {sa ka : Option Addr} {sc kc : Nat} (hin : ExIn code W0 cb cv vs w c (.slice sa vs.length sc) (.slice ka k.length kc) k) {c3 : Cur} {w3 : World} (hx : Xs code W0 cb cv w w.heap.size (.slice sa vs.length sc) rank w3 c3) (hok3 : okB (3 * kE f + 4) c3) {u : Nat → Value} (h0 : u 0 = .pointer (some ⟨cb,0,none⟩)) (h2 : u 2 = .int .i64 kind) (h3 : u 3 = .slice ka k.length kc) (h4 : u 4 = .bool late) (h5 : u 5 = .int .i64 d) (h7 : u 7 = .pointer (some ⟨w.heap.size,0,none⟩)) (h213 : u 213 = .bool (kind == 1)) {K : Act → World → Prop} {PO : Ending → World → Prop} (HK : ∀ a w,Code.wp Tryz.prog (rtC 1 (rtC 6 (Tryz.f32.body.getD .skip))) (bodyPost Tryz.prog Tryz.f32 PO) a w → K a w) (hPO : PO = ExAns code W0 cb cv w (rsF code (exF code vs rank f) c3 kind k late)) (hk : kind = 1) {v4 : Nat} {c4 : Cur} (hP : pkF code 6 c3 = (v4,c4)) (hv : v4 = 5) :
  Code.wp Tryz.prog (rtC 1 (lfC (rtC 6 (Tryz.f32.body.getD .skip)))) (Exit.then K (bodyPost Tryz.prog Tryz.f32 PO)) (FrE u) w3:=by
 have HC:=hide hC
 have HIN:=hide hin
 have HX3:=hide hx
 have HOK3:=hide hok3
 have HPO:=hide hPO
 have HDR:=hide (exF_dr (code:=code) (rank:=rank) hin.vk f)
 have HLN : Hid (∀ c kind k late,kOK k → (exF code vs rank f c kind k late).1.length ≤ 1093):=hide (fun c kind k late hk => Nat.le_trans (exF_dr (code:=code) (rank:=rank) (uh HIN).vk f c kind k late hk).2.1 (szE_le (by omega)))
 clear hPO hC hin hx hok3
 have hkb : (kind == 1) = true:=by rw [beq_iff_eq]; exact hk
 have HOK4 : Hid (okB (3 * kE f + 3) c4):=by
  have h9 : okB (3 * kE f + 3) (pkF code 6 c3).2:=pkF_ok (uh HOK3)
  rw [hP] at h9
  exact h9
 have hv4 : v4 < 6:=by
  have h9:=pkF_lt code (m:=6) c3 (by omega)
  rw [hP] at h9
  exact h9
 have hv5 : ((v4 : Int) == 5) = true:=by rw [beq_iff_eq]; omega
 have e9 : rsF code (exF code vs rank f) c3 kind k late = ((exF code vs rank f c4 kind k late).1 ++ [⟨4,0,noN⟩],(exF code vs rank f c4 kind k late).2):=by
  unfold rsF
  rw [if_pos hk]
  simp only [hP]
  rw [if_pos hv]
 rw [e9] at HPO
 clear e9 hk hv
 have s0:=(uh HX3).box.cell (i:=0) (v:=.slice sa vs.length sc) rfl
 have s1:=(uh HX3).box.cell (i:=1) (v:=.int .i64 rank) rfl
 rw [hkb] at h213
 unfold FrE
 rw [h0,h2,h3,h4,h5,h7,h213]
 clear h0 h2 h3 h4 h5 h7 h213
 conv => arg 2; whnf
 have HPK:=hide (pick_ok (uh HX3).cu 6 (by omega) ((uh HOK3).less (by omega)))
 replace HPK : Hid (Calls Tryz.prog 9 #[.pointer (some ⟨cb,0,none⟩),.int .i64 6] w3 (CuAns code W0 cb cv w3 (.int .i64 (pkF code 6 c3).1) (pkF code 6 c3).2)):=HPK
 rw [hP] at HPK
 replace HPK : Hid (Calls Tryz.prog 9 #[.pointer (some ⟨cb,0,none⟩),.int .i64 6] w3 (CuAns code W0 cb cv w3 (.int .i64 v4) c4)):=HPK
 go_wp2_with fail
 refine (uh HPK).mono ?_
 rintro e w5 ⟨rfl,hc5,ht5⟩
 have HX5:=hide ((uh HX3).go hc5 ht5)
 clear s0 s1 HPK hc5 ht5
 have s0:=(uh HX5).box.cell (i:=0) (v:=.slice sa vs.length sc) rfl
 have s1:=(uh HX5).box.cell (i:=1) (v:=.int .i64 rank) rfl
 have HE:=hide (exp_first hf (uh HC) (uh HIN) (uh HX5) ((uh HIN).at (uh HX5)).kl (uh HIN).kk (uh HIN).k4 ((uh HOK4).less (by omega)) kind late)
 go_wp2_with fail
 refine (uh HE).mono ?_
 rintro e w6 ⟨a6,n6,p6,rfl,HW6,HT6⟩
 clear HE s0 s1
 have s0:=(uh HW6).1.box.cell (i:=0) (v:=.slice sa vs.length sc) rfl
 have s1:=(uh HW6).1.box.cell (i:=1) (v:=.int .i64 rank) rfl
 obtain ⟨a7,n7,p7,w7,HR,HW7⟩:=(uh HW6).snoc (4) (0) (noN) (by have:=uh HLN c4 kind k late (uh HIN).kk; omega)
 go_wp2_with (at_builtin; go_must (refine wpList_append_run rfl _ _ 55 55 rfl rfl _ _ _ rfl rfl (uh HR) ?_))
 first | go_ret | skip
 rw [uh HPO]
 exact (uh HW7).end
end
end Go.Proofs.YtajabbnlbopcbaaGreatDoor
namespace Go.Proofs.YtajabbnlbopcbaaGreatDoor
open Go.RowKit
set_option linter.unusedSimpArgs false
set_option linter.unusedVariables false
section
variable {code : List Int} {W0 : World} {cb : Nat} {cv : Value} {w : World} {c c' : Cur} {vs : List DVar} {sv kv : Value} {k : List DCond} {b7 rank : Nat} {X Y : World}
theorem ops_at : ∀ i,i < 6 → (#[Value.int .i64 6,.int .i64 7,.int .i64 8,.int .i64 6,.int .i64 9,.int .i64 10] : Array Value)[i]? = some (.int .i64 (opsL.getD i 0)):=by
 intro i hi
 match i,hi with
 | 0,_ => rfl
 | 1,_ => rfl
 | 2,_ => rfl
 | 3,_ => rfl
 | 4,_ => rfl
 | 5,_ => rfl
set_option maxRecDepth 1000000 in
set_option maxHeartbeats 8000000 in
theorem exp_bin {f : Nat} (hf : f ≤ 5) {d : Int} (hd0 : 0 ≤ d) (hd5 : d ≤ 5) (hC : ExC code W0 cb cv vs rank f (d + 1)) {kind : Int} {late : Bool} {sa ka : Option Addr} {sc kc : Nat} (hin : ExIn code W0 cb cv vs w c (.slice sa vs.length sc) (.slice ka k.length kc) k) {c3 : Cur} {w3 : World} (hx : Xs code W0 cb cv w w.heap.size (.slice sa vs.length sc) rank w3 c3) (hok3 : okB (3 * kE f + 4) c3) {u : Nat → Value} (h0 : u 0 = .pointer (some ⟨cb,0,none⟩)) (h2 : u 2 = .int .i64 kind) (h3 : u 3 = .slice ka k.length kc) (h4 : u 4 = .bool late) (h5 : u 5 = .int .i64 d) (h7 : u 7 = .pointer (some ⟨w.heap.size,0,none⟩)) (h213 : u 213 = .bool (kind == 1)) {K : Act → World → Prop} {PO : Ending → World → Prop} (HK : ∀ a w,Code.wp Tryz.prog (rtC 1 (rtC 6 (Tryz.f32.body.getD .skip))) (bodyPost Tryz.prog Tryz.f32 PO) a w → K a w) (hPO : PO = ExAns code W0 cb cv w (rsF code (exF code vs rank f) c3 kind k late)) (hk : kind = 1) {v4 : Nat} {c4 : Cur} (hP : pkF code 6 c3 = (v4,c4)) (hv : ¬ v4 = 5) :
  Code.wp Tryz.prog (rtC 1 (lfC (rtC 6 (Tryz.f32.body.getD .skip)))) (Exit.then K (bodyPost Tryz.prog Tryz.f32 PO)) (FrE u) w3:=by
 have HC:=hide hC
 have HIN:=hide hin
 have HX3:=hide hx
 have HOK3:=hide hok3
 have HPO:=hide hPO
 have HDR:=hide (exF_dr (code:=code) (rank:=rank) hin.vk f)
 have HLN : Hid (∀ c kind k late,kOK k → (exF code vs rank f c kind k late).1.length ≤ 1093):=hide (fun c kind k late hk => Nat.le_trans (exF_dr (code:=code) (rank:=rank) (uh HIN).vk f c kind k late hk).2.1 (szE_le (by omega)))
 clear hPO hC hin hx hok3
 have hkb : (kind == 1) = true:=by rw [beq_iff_eq]; exact hk
 have HOK4 : Hid (okB (3 * kE f + 3) c4):=by
  have h9 : okB (3 * kE f + 3) (pkF code 6 c3).2:=pkF_ok (uh HOK3)
  rw [hP] at h9
  exact h9
 have hv4 : v4 < 6:=by
  have h9:=pkF_lt code (m:=6) c3 (by omega)
  rw [hP] at h9
  exact h9
 have hv5 : ((v4 : Int) == 5) = false:=by rw [beq_eq_false_iff_ne]; omega
 have e9 : rsF code (exF code vs rank f) c3 kind k late = ((bin2 (exF code vs rank f) c4 kind k late).1 ++ [⟨opsL.getD (pkF code 6 (bin2 (exF code vs rank f) c4 kind k late).2).1 0,0,noN⟩],(pkF code 6 (bin2 (exF code vs rank f) c4 kind k late).2).2):=by
  unfold rsF
  rw [if_pos hk]
  simp only [hP]
  rw [if_neg hv]
 rw [e9] at HPO
 clear e9 hk hv
 have s0:=(uh HX3).box.cell (i:=0) (v:=.slice sa vs.length sc) rfl
 have s1:=(uh HX3).box.cell (i:=1) (v:=.int .i64 rank) rfl
 rw [hkb] at h213
 unfold FrE
 rw [h0,h2,h3,h4,h5,h7,h213]
 clear h0 h2 h3 h4 h5 h7 h213
 conv => arg 2; whnf
 have HPK:=hide (pick_ok (uh HX3).cu 6 (by omega) ((uh HOK3).less (by omega)))
 replace HPK : Hid (Calls Tryz.prog 9 #[.pointer (some ⟨cb,0,none⟩),.int .i64 6] w3 (CuAns code W0 cb cv w3 (.int .i64 (pkF code 6 c3).1) (pkF code 6 c3).2)):=HPK
 rw [hP] at HPK
 replace HPK : Hid (Calls Tryz.prog 9 #[.pointer (some ⟨cb,0,none⟩),.int .i64 6] w3 (CuAns code W0 cb cv w3 (.int .i64 v4) c4)):=HPK
 go_wp2_with fail
 refine (uh HPK).mono ?_
 rintro e w5 ⟨rfl,hc5,ht5⟩
 have HX5:=hide ((uh HX3).go hc5 ht5)
 clear s0 s1 HPK hc5 ht5
 have s0:=(uh HX5).box.cell (i:=0) (v:=.slice sa vs.length sc) rfl
 have s1:=(uh HX5).box.cell (i:=1) (v:=.int .i64 rank) rfl
 have HE:=hide (exp_first hf (uh HC) (uh HIN) (uh HX5) ((uh HIN).at (uh HX5)).kl (uh HIN).kk (uh HIN).k4 ((uh HOK4).less (by omega)) kind late)
 go_wp2_with fail
 refine (uh HE).mono ?_
 rintro e w6 ⟨a6,n6,p6,rfl,HW6,HT6⟩
 clear HE s0 s1
 have s0:=(uh HW6).1.box.cell (i:=0) (v:=.slice sa vs.length sc) rfl
 have s1:=(uh HW6).1.box.cell (i:=1) (v:=.int .i64 rank) rfl
 have HOK5 : Hid (okB (2 * kE f + 3) ((exF code vs rank f) c4 kind k late).2):=hide ((uh HDR c4 kind k late (uh HIN).kk).2.2 _ ((uh HOK4).less (by omega)))
 have HE:=hide (exp_next hf (uh HC) (uh HIN) (uh HW6) (by have:=uh HLN c4 kind k late (uh HIN).kk; omega) ((uh HIN).at (uh HW6).1).kl (uh HIN).kk (uh HIN).k4 ((uh HOK5).less (by omega)) kind late)
 go_wp2_with fail
 refine (uh HE).mono ?_
 rintro e v8 ⟨aa8,nn8,pp8,a8,n8,p8,w8,rfl,HR,HW8,HT8⟩
 clear HE s0 s1
 have s0:=(uh HW8).1.box.cell (i:=0) (v:=.slice sa vs.length sc) rfl
 have s1:=(uh HW8).1.box.cell (i:=1) (v:=.int .i64 rank) rfl
 have HOK6 : Hid (okB (kE f + 3) ((exF code vs rank f) ((exF code vs rank f) c4 kind k late).2 kind k late).2):=hide ((uh HDR ((exF code vs rank f) c4 kind k late).2 kind k late (uh HIN).kk).2.2 _ ((uh HOK5).less (by omega)))
 have HL9 : Hid (_ ∧ _):=And.intro (uh HLN c4 kind k late (uh HIN).kk) (uh HLN ((exF code vs rank f) c4 kind k late).2 kind k late (uh HIN).kk)
 obtain ⟨A8,hA8⟩ : ∃ A8,A8 = w8.alloc (.cells #[Value.int .i64 6,.int .i64 7,.int .i64 8,.int .i64 6,.int .i64 9,.int .i64 10] 3):=⟨_,rfl⟩
 have hbl : Below w8.heap.size w8 A8:=hA8 ▸ (Below.refl _ _).alloc (Nat.le_refl _) _
 have HBB : Hid (BlkAt A8 w8.heap.size 3 #[Value.int .i64 6,.int .i64 7,.int .i64 8,.int .i64 6,.int .i64 9,.int .i64 10]):=hA8 ▸ blk_box w8 _ _
 have HWA:=hide ((uh HW8).go ((uh HW8).1.below hbl) (Tr.of_below hbl))
 have hne8 : w8.heap.size ≠ cb:=by have:=(uh HW8).1.cu.blk.lt; omega
 have HPK:=hide (pick_ok (uh HWA).1.cu 6 (by omega) ((uh HOK6).less (by omega)))
 have hlt:=pkF_lt code (m:=6) ((exF code vs rank f) ((exF code vs rank f) c4 kind k late).2 kind k late).2 (by omega)
 have HA8:=hide hA8
 clear HOK5 HOK6 hbl hA8
 generalize hq : pkF code 6 ((exF code vs rank f) ((exF code vs rank f) c4 kind k late).2 kind k late).2 = Q at *
 obtain ⟨v9,c9⟩:=Q
 replace HPK : Hid (Calls Tryz.prog 9 #[.pointer (some ⟨cb,0,none⟩),.int .i64 6] A8 (CuAns code W0 cb cv A8 (.int .i64 v9) c9)):=HPK
 replace hlt : v9 < 6:=hlt
 have HQ:=hide hq
 clear hq
 have HV:=hide (ops_at v9 hlt)
 go_wp2_with (at_builtin; go_must (refine wpList_append_run rfl _ _ 55 55 rfl rfl _ _ _ rfl rfl (uh HR) ?_))
 rw [← uh HA8]
 refine (uh HPK).mono ?_
 rintro e w9 ⟨rfl,hc9,ht9⟩
 have HW9:=hide ((uh HWA).go ((uh HWA).1.go hc9 ht9) ht9)
 have g9:=(ht9.blk (uh HBB) hne8).cell (i:=v9) (uh HV)
 clear HPK hc9 ht9 HR s0 s1 HV HA8
 have hlt2 : (v9 : Int) < 6:=by omega
 generalize hvb : opsL.getD v9 0 = vb at *
 have HVB:=hide hvb
 clear hvb
 obtain ⟨a10,n10,p10,w10,HR,HW10⟩:=(uh HW9).snoc (vb) (0) (noN) (by have:=uh HL9; rw [List.length_append]; omega)
 go_wp2_with (at_builtin; go_must (refine wpList_append_run rfl _ _ 55 55 rfl rfl _ _ _ rfl rfl (uh HR) ?_))
 first | go_ret | skip
 rw [uh HPO]
 exact (uh HW10).end.of_eq (by simp only [uh HQ,uh HVB,bin2,List.append_assoc])
end
end Go.Proofs.YtajabbnlbopcbaaGreatDoor
namespace Go.Proofs.YtajabbnlbopcbaaGreatDoor
open Go.RowKit
set_option linter.unusedSimpArgs false
set_option linter.unusedVariables false
section
variable {code : List Int} {W0 : World} {cb : Nat} {cv : Value} {w : World} {c c' : Cur} {vs : List DVar} {sv kv : Value} {k : List DCond} {b7 rank : Nat} {X Y : World}
set_option maxRecDepth 1000000 in
set_option maxHeartbeats 8000000 in
theorem exp_not {f : Nat} (hf : f ≤ 5) {d : Int} (hd0 : 0 ≤ d) (hd5 : d ≤ 5) (hC : ExC code W0 cb cv vs rank f (d + 1)) {kind : Int} {late : Bool} {sa ka : Option Addr} {sc kc : Nat} (hin : ExIn code W0 cb cv vs w c (.slice sa vs.length sc) (.slice ka k.length kc) k) {c3 : Cur} {w3 : World} (hx : Xs code W0 cb cv w w.heap.size (.slice sa vs.length sc) rank w3 c3) (hok3 : okB (3 * kE f + 4) c3) {u : Nat → Value} (h0 : u 0 = .pointer (some ⟨cb,0,none⟩)) (h2 : u 2 = .int .i64 kind) (h3 : u 3 = .slice ka k.length kc) (h4 : u 4 = .bool late) (h5 : u 5 = .int .i64 d) (h7 : u 7 = .pointer (some ⟨w.heap.size,0,none⟩)) (h213 : u 213 = .bool (kind == 1)) {K : Act → World → Prop} {PO : Ending → World → Prop} (HK : ∀ a w,Code.wp Tryz.prog (rtC 1 (rtC 6 (Tryz.f32.body.getD .skip))) (bodyPost Tryz.prog Tryz.f32 PO) a w → K a w) (hPO : PO = ExAns code W0 cb cv w (rsF code (exF code vs rank f) c3 kind k late)) (hk : ¬ kind = 1) {v4 : Nat} {c4 : Cur} (hP : pkF code 4 c3 = (v4,c4)) (hv : v4 = 0) :
  Code.wp Tryz.prog (rtC 1 (lfC (rtC 6 (Tryz.f32.body.getD .skip)))) (Exit.then K (bodyPost Tryz.prog Tryz.f32 PO)) (FrE u) w3:=by
 have HC:=hide hC
 have HIN:=hide hin
 have HX3:=hide hx
 have HOK3:=hide hok3
 have HPO:=hide hPO
 have HDR:=hide (exF_dr (code:=code) (rank:=rank) hin.vk f)
 have HLN : Hid (∀ c kind k late,kOK k → (exF code vs rank f c kind k late).1.length ≤ 1093):=hide (fun c kind k late hk => Nat.le_trans (exF_dr (code:=code) (rank:=rank) (uh HIN).vk f c kind k late hk).2.1 (szE_le (by omega)))
 clear hPO hC hin hx hok3
 have hkb : (kind == 1) = false:=by rw [beq_eq_false_iff_ne]; exact hk
 have HOK4 : Hid (okB (3 * kE f + 3) c4):=by
  have h9 : okB (3 * kE f + 3) (pkF code 4 c3).2:=pkF_ok (uh HOK3)
  rw [hP] at h9
  exact h9
 have hv4 : v4 < 4:=by
  have h9:=pkF_lt code (m:=4) c3 (by omega)
  rw [hP] at h9
  exact h9
 have hv5 : ((v4 : Int) == 0) = true:=by rw [beq_iff_eq]; omega
 have e9 : rsF code (exF code vs rank f) c3 kind k late = ((exF code vs rank f c4 kind k late).1 ++ [⟨5,0,noN⟩],(exF code vs rank f c4 kind k late).2):=by
  unfold rsF
  rw [if_neg hk]
  simp only [hP]
  rw [if_pos hv]
 rw [e9] at HPO
 clear e9 hk hv
 have s0:=(uh HX3).box.cell (i:=0) (v:=.slice sa vs.length sc) rfl
 have s1:=(uh HX3).box.cell (i:=1) (v:=.int .i64 rank) rfl
 rw [hkb] at h213
 unfold FrE
 rw [h0,h2,h3,h4,h5,h7,h213]
 clear h0 h2 h3 h4 h5 h7 h213
 conv => arg 2; whnf
 go_wp2_with fail
 conv => arg 2; whnf
 have HPK:=hide (pick_ok (uh HX3).cu 4 (by omega) ((uh HOK3).less (by omega)))
 replace HPK : Hid (Calls Tryz.prog 9 #[.pointer (some ⟨cb,0,none⟩),.int .i64 4] w3 (CuAns code W0 cb cv w3 (.int .i64 (pkF code 4 c3).1) (pkF code 4 c3).2)):=HPK
 rw [hP] at HPK
 replace HPK : Hid (Calls Tryz.prog 9 #[.pointer (some ⟨cb,0,none⟩),.int .i64 4] w3 (CuAns code W0 cb cv w3 (.int .i64 v4) c4)):=HPK
 go_wp2_with fail
 refine (uh HPK).mono ?_
 rintro e w5 ⟨rfl,hc5,ht5⟩
 have HX5:=hide ((uh HX3).go hc5 ht5)
 clear s0 s1 HPK hc5 ht5
 have s0:=(uh HX5).box.cell (i:=0) (v:=.slice sa vs.length sc) rfl
 have s1:=(uh HX5).box.cell (i:=1) (v:=.int .i64 rank) rfl
 have HE:=hide (exp_first hf (uh HC) (uh HIN) (uh HX5) ((uh HIN).at (uh HX5)).kl (uh HIN).kk (uh HIN).k4 ((uh HOK4).less (by omega)) kind late)
 go_wp2_with fail
 refine (uh HE).mono ?_
 rintro e w6 ⟨a6,n6,p6,rfl,HW6,HT6⟩
 clear HE s0 s1
 have s0:=(uh HW6).1.box.cell (i:=0) (v:=.slice sa vs.length sc) rfl
 have s1:=(uh HW6).1.box.cell (i:=1) (v:=.int .i64 rank) rfl
 obtain ⟨a7,n7,p7,w7,HR,HW7⟩:=(uh HW6).snoc (5) (0) (noN) (by have:=uh HLN c4 kind k late (uh HIN).kk; omega)
 go_wp2_with (at_builtin; go_must (refine wpList_append_run rfl _ _ 55 55 rfl rfl _ _ _ rfl rfl (uh HR) ?_))
 first | go_ret | skip
 rw [uh HPO]
 exact (uh HW7).end
end
end Go.Proofs.YtajabbnlbopcbaaGreatDoor
namespace Go.Proofs.YtajabbnlbopcbaaGreatDoor
open Go.RowKit
set_option linter.unusedSimpArgs false
set_option linter.unusedVariables false
section
variable {code : List Int} {W0 : World} {cb : Nat} {cv : Value} {w : World} {c c' : Cur} {vs : List DVar} {sv kv : Value} {k : List DCond} {b7 rank : Nat} {X Y : World}
set_option maxRecDepth 1000000 in
set_option maxHeartbeats 8000000 in
theorem exp_and {f : Nat} (hf : f ≤ 5) {d : Int} (hd0 : 0 ≤ d) (hd5 : d ≤ 5) (hC : ExC code W0 cb cv vs rank f (d + 1)) {kind : Int} {late : Bool} {sa ka : Option Addr} {sc kc : Nat} (hin : ExIn code W0 cb cv vs w c (.slice sa vs.length sc) (.slice ka k.length kc) k) {c3 : Cur} {w3 : World} (hx : Xs code W0 cb cv w w.heap.size (.slice sa vs.length sc) rank w3 c3) (hok3 : okB (3 * kE f + 4) c3) {u : Nat → Value} (h0 : u 0 = .pointer (some ⟨cb,0,none⟩)) (h2 : u 2 = .int .i64 kind) (h3 : u 3 = .slice ka k.length kc) (h4 : u 4 = .bool late) (h5 : u 5 = .int .i64 d) (h7 : u 7 = .pointer (some ⟨w.heap.size,0,none⟩)) (h213 : u 213 = .bool (kind == 1)) {K : Act → World → Prop} {PO : Ending → World → Prop} (HK : ∀ a w,Code.wp Tryz.prog (rtC 1 (rtC 6 (Tryz.f32.body.getD .skip))) (bodyPost Tryz.prog Tryz.f32 PO) a w → K a w) (hPO : PO = ExAns code W0 cb cv w (rsF code (exF code vs rank f) c3 kind k late)) (hk : ¬ kind = 1) {v4 : Nat} {c4 : Cur} (hP : pkF code 4 c3 = (v4,c4)) (hv : v4 = 1) :
  Code.wp Tryz.prog (rtC 1 (lfC (rtC 6 (Tryz.f32.body.getD .skip)))) (Exit.then K (bodyPost Tryz.prog Tryz.f32 PO)) (FrE u) w3:=by
 have HC:=hide hC
 have HIN:=hide hin
 have HX3:=hide hx
 have HOK3:=hide hok3
 have HPO:=hide hPO
 have HDR:=hide (exF_dr (code:=code) (rank:=rank) hin.vk f)
 have HLN : Hid (∀ c kind k late,kOK k → (exF code vs rank f c kind k late).1.length ≤ 1093):=hide (fun c kind k late hk => Nat.le_trans (exF_dr (code:=code) (rank:=rank) (uh HIN).vk f c kind k late hk).2.1 (szE_le (by omega)))
 clear hPO hC hin hx hok3
 have hkb : (kind == 1) = false:=by rw [beq_eq_false_iff_ne]; exact hk
 have HOK4 : Hid (okB (3 * kE f + 3) c4):=by
  have h9 : okB (3 * kE f + 3) (pkF code 4 c3).2:=pkF_ok (uh HOK3)
  rw [hP] at h9
  exact h9
 have hv4 : v4 < 4:=by
  have h9:=pkF_lt code (m:=4) c3 (by omega)
  rw [hP] at h9
  exact h9
 have hv5 : ((v4 : Int) == 0) = false:=by rw [beq_eq_false_iff_ne]; omega
 have hv6 : ((v4 : Int) == 1) = true:=by rw [beq_iff_eq]; omega
 have e9 : rsF code (exF code vs rank f) c3 kind k late = ((bin2 (exF code vs rank f) c4 kind k late).1 ++ [⟨17 + (pkF code 3 (bin2 (exF code vs rank f) c4 kind k late).2).1,0,noN⟩],(pkF code 3 (bin2 (exF code vs rank f) c4 kind k late).2).2):=by
  unfold rsF
  rw [if_neg hk]
  simp only [hP]
  rw [if_neg (by omega),if_pos hv]
 rw [e9] at HPO
 clear e9 hk hv
 have s0:=(uh HX3).box.cell (i:=0) (v:=.slice sa vs.length sc) rfl
 have s1:=(uh HX3).box.cell (i:=1) (v:=.int .i64 rank) rfl
 rw [hkb] at h213
 unfold FrE
 rw [h0,h2,h3,h4,h5,h7,h213]
 clear h0 h2 h3 h4 h5 h7 h213
 conv => arg 2; whnf
 go_wp2_with fail
 conv => arg 2; whnf
 have HPK:=hide (pick_ok (uh HX3).cu 4 (by omega) ((uh HOK3).less (by omega)))
 replace HPK : Hid (Calls Tryz.prog 9 #[.pointer (some ⟨cb,0,none⟩),.int .i64 4] w3 (CuAns code W0 cb cv w3 (.int .i64 (pkF code 4 c3).1) (pkF code 4 c3).2)):=HPK
 rw [hP] at HPK
 replace HPK : Hid (Calls Tryz.prog 9 #[.pointer (some ⟨cb,0,none⟩),.int .i64 4] w3 (CuAns code W0 cb cv w3 (.int .i64 v4) c4)):=HPK
 go_wp2_with fail
 refine (uh HPK).mono ?_
 rintro e w5 ⟨rfl,hc5,ht5⟩
 have HX5:=hide ((uh HX3).go hc5 ht5)
 clear s0 s1 HPK hc5 ht5
 have s0:=(uh HX5).box.cell (i:=0) (v:=.slice sa vs.length sc) rfl
 have s1:=(uh HX5).box.cell (i:=1) (v:=.int .i64 rank) rfl
 have HE:=hide (exp_first hf (uh HC) (uh HIN) (uh HX5) ((uh HIN).at (uh HX5)).kl (uh HIN).kk (uh HIN).k4 ((uh HOK4).less (by omega)) kind late)
 go_wp2_with fail
 refine (uh HE).mono ?_
 rintro e w6 ⟨a6,n6,p6,rfl,HW6,HT6⟩
 clear HE s0 s1
 have s0:=(uh HW6).1.box.cell (i:=0) (v:=.slice sa vs.length sc) rfl
 have s1:=(uh HW6).1.box.cell (i:=1) (v:=.int .i64 rank) rfl
 have HOK5 : Hid (okB (2 * kE f + 3) ((exF code vs rank f) c4 kind k late).2):=hide ((uh HDR c4 kind k late (uh HIN).kk).2.2 _ ((uh HOK4).less (by omega)))
 have HE:=hide (exp_next hf (uh HC) (uh HIN) (uh HW6) (by have:=uh HLN c4 kind k late (uh HIN).kk; omega) ((uh HIN).at (uh HW6).1).kl (uh HIN).kk (uh HIN).k4 ((uh HOK5).less (by omega)) kind late)
 go_wp2_with fail
 refine (uh HE).mono ?_
 rintro e v8 ⟨aa8,nn8,pp8,a8,n8,p8,w8,rfl,HR,HW8,HT8⟩
 clear HE s0 s1
 have s0:=(uh HW8).1.box.cell (i:=0) (v:=.slice sa vs.length sc) rfl
 have s1:=(uh HW8).1.box.cell (i:=1) (v:=.int .i64 rank) rfl
 have HOK6 : Hid (okB (kE f + 3) ((exF code vs rank f) ((exF code vs rank f) c4 kind k late).2 kind k late).2):=hide ((uh HDR ((exF code vs rank f) c4 kind k late).2 kind k late (uh HIN).kk).2.2 _ ((uh HOK5).less (by omega)))
 have HL9 : Hid (_ ∧ _):=And.intro (uh HLN c4 kind k late (uh HIN).kk) (uh HLN ((exF code vs rank f) c4 kind k late).2 kind k late (uh HIN).kk)
 have HPK:=hide (pick_ok (uh HW8).1.cu 3 (by omega) ((uh HOK6).less (by omega)))
 have hlt:=pkF_lt code (m:=3) ((exF code vs rank f) ((exF code vs rank f) c4 kind k late).2 kind k late).2 (by omega)
 clear HOK5 HOK6
 generalize hq : pkF code 3 ((exF code vs rank f) ((exF code vs rank f) c4 kind k late).2 kind k late).2 = Q at *
 obtain ⟨v9,c9⟩:=Q
 replace HPK : Hid (Calls Tryz.prog 9 #[.pointer (some ⟨cb,0,none⟩),.int .i64 3] w8 (CuAns code W0 cb cv w8 (.int .i64 v9) c9)):=HPK
 replace hlt : v9 < 3:=hlt
 have HQ:=hide hq
 clear hq
 go_wp2_with (at_builtin; go_must (refine wpList_append_run rfl _ _ 55 55 rfl rfl _ _ _ rfl rfl (uh HR) ?_))
 refine (uh HPK).mono ?_
 rintro e w9 ⟨rfl,hc9,ht9⟩
 have HW9:=hide ((uh HW8).go ((uh HW8).1.go hc9 ht9) ht9)
 clear HPK hc9 ht9 HR s0 s1
 have hlt2 : (v9 : Int) < 3:=by omega
 obtain ⟨a10,n10,p10,w10,HR,HW10⟩:=(uh HW9).snoc (17 + (v9 : Int)) (0) (noN) (by have:=uh HL9; rw [List.length_append]; omega)
 go_wp2_with (at_builtin; go_must (refine wpList_append_run rfl _ _ 55 55 rfl rfl _ _ _ rfl rfl (uh HR) ?_))
 first | go_ret | skip
 rw [uh HPO]
 exact (uh HW10).end.of_eq (by simp only [uh HQ,bin2,List.append_assoc])
end
end Go.Proofs.YtajabbnlbopcbaaGreatDoor
namespace Go.Proofs.YtajabbnlbopcbaaGreatDoor
open Go.RowKit
set_option linter.unusedSimpArgs false
set_option linter.unusedVariables false
section
variable {code : List Int} {W0 : World} {cb : Nat} {cv : Value} {w : World} {c c' : Cur} {vs : List DVar} {sv kv : Value} {k : List DCond} {b7 rank : Nat} {X Y : World}
set_option maxRecDepth 1000000 in
set_option maxHeartbeats 8000000 in
theorem exp_cmp {f : Nat} (hf : f ≤ 5) {d : Int} (hd0 : 0 ≤ d) (hd5 : d ≤ 5) (hC : ExC code W0 cb cv vs rank f (d + 1)) {kind : Int} {late : Bool} {sa ka : Option Addr} {sc kc : Nat} (hin : ExIn code W0 cb cv vs w c (.slice sa vs.length sc) (.slice ka k.length kc) k) {c3 : Cur} {w3 : World} (hx : Xs code W0 cb cv w w.heap.size (.slice sa vs.length sc) rank w3 c3) (hok3 : okB (3 * kE f + 4) c3) {u : Nat → Value} (h0 : u 0 = .pointer (some ⟨cb,0,none⟩)) (h2 : u 2 = .int .i64 kind) (h3 : u 3 = .slice ka k.length kc) (h4 : u 4 = .bool late) (h5 : u 5 = .int .i64 d) (h7 : u 7 = .pointer (some ⟨w.heap.size,0,none⟩)) (h213 : u 213 = .bool (kind == 1)) {K : Act → World → Prop} {PO : Ending → World → Prop} (HK : ∀ a w,Code.wp Tryz.prog (rtC 1 (rtC 6 (Tryz.f32.body.getD .skip))) (bodyPost Tryz.prog Tryz.f32 PO) a w → K a w) (hPO : PO = ExAns code W0 cb cv w (rsF code (exF code vs rank f) c3 kind k late)) (hk : ¬ kind = 1) {v4 : Nat} {c4 : Cur} (hP : pkF code 4 c3 = (v4,c4)) (hv : 2 ≤ v4) :
  Code.wp Tryz.prog (rtC 1 (lfC (rtC 6 (Tryz.f32.body.getD .skip)))) (Exit.then K (bodyPost Tryz.prog Tryz.f32 PO)) (FrE u) w3:=by
 have HC:=hide hC
 have HIN:=hide hin
 have HX3:=hide hx
 have HOK3:=hide hok3
 have HPO:=hide hPO
 have HDR:=hide (exF_dr (code:=code) (rank:=rank) hin.vk f)
 have HLN : Hid (∀ c kind k late,kOK k → (exF code vs rank f c kind k late).1.length ≤ 1093):=hide (fun c kind k late hk => Nat.le_trans (exF_dr (code:=code) (rank:=rank) (uh HIN).vk f c kind k late hk).2.1 (szE_le (by omega)))
 clear hPO hC hin hx hok3
 have hkb : (kind == 1) = false:=by rw [beq_eq_false_iff_ne]; exact hk
 have HOK4 : Hid (okB (3 * kE f + 3) c4):=by
  have h9 : okB (3 * kE f + 3) (pkF code 4 c3).2:=pkF_ok (uh HOK3)
  rw [hP] at h9
  exact h9
 have hv4 : v4 < 4:=by
  have h9:=pkF_lt code (m:=4) c3 (by omega)
  rw [hP] at h9
  exact h9
 have hv5 : ((v4 : Int) == 0) = false:=by rw [beq_eq_false_iff_ne]; omega
 have hv6 : ((v4 : Int) == 1) = false:=by rw [beq_eq_false_iff_ne]; omega
 have e9 : rsF code (exF code vs rank f) c3 kind k late = ((bin2 (exF code vs rank f) c4 1 k late).1 ++ [⟨11 + (pkF code 6 (bin2 (exF code vs rank f) c4 1 k late).2).1,0,noN⟩],(pkF code 6 (bin2 (exF code vs rank f) c4 1 k late).2).2):=by
  unfold rsF
  rw [if_neg hk]
  simp only [hP]
  rw [if_neg (by omega),if_neg (by omega)]
 rw [e9] at HPO
 clear e9 hk hv
 have s0:=(uh HX3).box.cell (i:=0) (v:=.slice sa vs.length sc) rfl
 have s1:=(uh HX3).box.cell (i:=1) (v:=.int .i64 rank) rfl
 rw [hkb] at h213
 unfold FrE
 rw [h0,h2,h3,h4,h5,h7,h213]
 clear h0 h2 h3 h4 h5 h7 h213
 conv => arg 2; whnf
 go_wp2_with fail
 conv => arg 2; whnf
 have HPK:=hide (pick_ok (uh HX3).cu 4 (by omega) ((uh HOK3).less (by omega)))
 replace HPK : Hid (Calls Tryz.prog 9 #[.pointer (some ⟨cb,0,none⟩),.int .i64 4] w3 (CuAns code W0 cb cv w3 (.int .i64 (pkF code 4 c3).1) (pkF code 4 c3).2)):=HPK
 rw [hP] at HPK
 replace HPK : Hid (Calls Tryz.prog 9 #[.pointer (some ⟨cb,0,none⟩),.int .i64 4] w3 (CuAns code W0 cb cv w3 (.int .i64 v4) c4)):=HPK
 go_wp2_with fail
 refine (uh HPK).mono ?_
 rintro e w5 ⟨rfl,hc5,ht5⟩
 have HX5:=hide ((uh HX3).go hc5 ht5)
 clear s0 s1 HPK hc5 ht5
 have s0:=(uh HX5).box.cell (i:=0) (v:=.slice sa vs.length sc) rfl
 have s1:=(uh HX5).box.cell (i:=1) (v:=.int .i64 rank) rfl
 have HE:=hide (exp_first hf (uh HC) (uh HIN) (uh HX5) ((uh HIN).at (uh HX5)).kl (uh HIN).kk (uh HIN).k4 ((uh HOK4).less (by omega)) 1 late)
 go_wp2_with fail
 refine (uh HE).mono ?_
 rintro e w6 ⟨a6,n6,p6,rfl,HW6,HT6⟩
 clear HE s0 s1
 have s0:=(uh HW6).1.box.cell (i:=0) (v:=.slice sa vs.length sc) rfl
 have s1:=(uh HW6).1.box.cell (i:=1) (v:=.int .i64 rank) rfl
 have HOK5 : Hid (okB (2 * kE f + 3) ((exF code vs rank f) c4 1 k late).2):=hide ((uh HDR c4 1 k late (uh HIN).kk).2.2 _ ((uh HOK4).less (by omega)))
 have HE:=hide (exp_next hf (uh HC) (uh HIN) (uh HW6) (by have:=uh HLN c4 1 k late (uh HIN).kk; omega) ((uh HIN).at (uh HW6).1).kl (uh HIN).kk (uh HIN).k4 ((uh HOK5).less (by omega)) 1 late)
 go_wp2_with fail
 refine (uh HE).mono ?_
 rintro e v8 ⟨aa8,nn8,pp8,a8,n8,p8,w8,rfl,HR,HW8,HT8⟩
 clear HE s0 s1
 have s0:=(uh HW8).1.box.cell (i:=0) (v:=.slice sa vs.length sc) rfl
 have s1:=(uh HW8).1.box.cell (i:=1) (v:=.int .i64 rank) rfl
 have HOK6 : Hid (okB (kE f + 3) ((exF code vs rank f) ((exF code vs rank f) c4 1 k late).2 1 k late).2):=hide ((uh HDR ((exF code vs rank f) c4 1 k late).2 1 k late (uh HIN).kk).2.2 _ ((uh HOK5).less (by omega)))
 have HL9 : Hid (_ ∧ _):=And.intro (uh HLN c4 1 k late (uh HIN).kk) (uh HLN ((exF code vs rank f) c4 1 k late).2 1 k late (uh HIN).kk)
 have HPK:=hide (pick_ok (uh HW8).1.cu 6 (by omega) ((uh HOK6).less (by omega)))
 have hlt:=pkF_lt code (m:=6) ((exF code vs rank f) ((exF code vs rank f) c4 1 k late).2 1 k late).2 (by omega)
 clear HOK5 HOK6
 generalize hq : pkF code 6 ((exF code vs rank f) ((exF code vs rank f) c4 1 k late).2 1 k late).2 = Q at *
 obtain ⟨v9,c9⟩:=Q
 replace HPK : Hid (Calls Tryz.prog 9 #[.pointer (some ⟨cb,0,none⟩),.int .i64 6] w8 (CuAns code W0 cb cv w8 (.int .i64 v9) c9)):=HPK
 replace hlt : v9 < 6:=hlt
 have HQ:=hide hq
 clear hq
 go_wp2_with (at_builtin; go_must (refine wpList_append_run rfl _ _ 55 55 rfl rfl _ _ _ rfl rfl (uh HR) ?_))
 refine (uh HPK).mono ?_
 rintro e w9 ⟨rfl,hc9,ht9⟩
 have HW9:=hide ((uh HW8).go ((uh HW8).1.go hc9 ht9) ht9)
 clear HPK hc9 ht9 HR s0 s1
 have hlt2 : (v9 : Int) < 6:=by omega
 obtain ⟨a10,n10,p10,w10,HR,HW10⟩:=(uh HW9).snoc (11 + (v9 : Int)) (0) (noN) (by have:=uh HL9; rw [List.length_append]; omega)
 go_wp2_with (at_builtin; go_must (refine wpList_append_run rfl _ _ 55 55 rfl rfl _ _ _ rfl rfl (uh HR) ?_))
 first | go_ret | skip
 rw [uh HPO]
 exact (uh HW10).end.of_eq (by simp only [uh HQ,bin2,List.append_assoc])
end
end Go.Proofs.YtajabbnlbopcbaaGreatDoor
