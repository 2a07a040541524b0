/-
  Of SRounds.
-/
import Derived.Test.YtihophdbkjhopaaGreatDoorZC19
set_option maxRecDepth 1000000
set_option maxHeartbeats 20000000
namespace Go.Proofs.YtihophdbkjhopaaGreatDoor
open Go.RowKit
open Go.Value renaming int → vI
open Go.IntKind renaming u64 → vU
open Go.Act renaming put → aP
open List renaming setIfInBounds_toArray → lA, set_cons_zero → lZ, set_cons_succ → lS
theorem st8 {w : World} {g : Nat} {a b c d e f q h : Nat} (p : Pre w g 120 8 (hst ⟨a,b,c,d,e,f,q,h⟩)) :
  w.cell? ⟨g,0,none⟩ = some (.int .u32 (a : Int)) ∧ w.cell? ⟨g,1,none⟩ = some (.int .u32 (b : Int)) ∧ w.cell? ⟨g,2,none⟩ = some (.int .u32 (c : Int)) ∧ w.cell? ⟨g,3,none⟩ = some (.int .u32 (d : Int)) ∧
  w.cell? ⟨g,4,none⟩ = some (.int .u32 (e : Int)) ∧ w.cell? ⟨g,5,none⟩ = some (.int .u32 (f : Int)) ∧ w.cell? ⟨g,6,none⟩ = some (.int .u32 (q : Int)) ∧ w.cell? ⟨g,7,none⟩ = some (.int .u32 (h : Int)) :=
 ⟨p.cell (by decide),p.cell (by decide),p.cell (by decide),p.cell (by decide),p.cell (by decide),p.cell (by decide),p.cell (by decide),p.cell (by decide)⟩
theorem zee {x n : Nat} {m r : Nat} (hr : r = rot x n) (hx : x < 2 ^ 32) (hn : n ≤ 32) (hm : m = n) (W : World) : Calls Tryz.prog 70 #[.int .u32 (x : Int),.int .i64 (m : Int)] W fun e w' => e = .returned (.int .u32 (r : Int)) ∧ w' = W:=by
 subst hm; subst hr; exact zdy x m hx hn W
theorem rounds_piece {u0 u1 u2 u3 u4 u5 u6 u7 u9 u11 u12 u13 u14 u15 u16 u19 u20 u21 u22 u23 u24 u25 u26 u27 u28 u29 u30 u31 u32 u33 u34 u35 u36 u37 u38 u39 u40 u41 u42 u43 u44 u45 u46 u47 u48 u49 u50 u51 u52 u53 u54 u55 u56 u57 u58 u59 u60 u61 u62 u63 u64 u65 u66 u67 u68 u69 u70 u71 u72 u73 u74 u75 u76 u77 u78 u79 u80 u81 u82 u83 u84 u85 u86 u87 u88 u89 u90 u91 u92 u93 u94 u95 u96 u97 u98 u99 u100 u101 u102 u103 u104 u105 u106 u107 u108 u109 u110 u111 u112 u113 u114 u115 u116 u117 u118 u119 u120 u121 u122 u123 u124 u125 u126 u127 u128 u129 u130 u131 u132 u133 u134 u135 u136 u137 u138 u139 u140 u141 u142 u143 u144 u145 u146 u147 u148 u149 u150 u151 u152 u153 u154 u155 u156 u157 u158 u159 u160 u161 u162 u163 u164 u165 u166 u167 u168 u169 u170 u171 u172 u173 u174 u175 u176 u177 u178 u179 u180 u181 u182 u183 u184 u185 u186 u187 u188 u189 u190 u191 u192 u193 u194 u195 u196 u197 u198 u199 u200 u201 u202 u203 u204 u205 u206 u207 u208 u209 u210 u211 u212 u213 u214 u215 u216 u217 u218 u219 u220 u221 u222 u223 u224 u225 u226 u227 u228 u229 u230 u231 u232 u233 u234 u235 u236 u237 u238 u239 u240 u241 u242 u243 u244 u245 u246 u247 u248 u249 u250 u251 u252 u253 u254 u255 u256 u257 u258 u259 u260 u261 u262 u263 u264 u265 u266 u267 u268 u269 u270 u271 u272 u273 u274 u275 u276 u277 u278 u279 u280 u281 u282 u283 u284 u285 u286 u287 u288 u289 u290 u291 u292 u293 u294 u295 u296 u297 u298 u299 u300 u301 u302 u303 u304 u305 u306 u307 u308 u309 u310 u311 u312 u313 u314 u315 u316 u317 u318 u319 u320 u321 u322 u323 u324 u325 u326 u327 u328 u329 u330 u331 u332 : Value} {w wr : World} {gR gT gH gK gW gs N cW cs : Nat} {tx : Nat → Value} {m : Nat → Nat} {st : St} {hv : Nat → Value} {Q0 : Exit → Act → World → Prop} (hst0 : st.Ok) (hm : ∀ t,wt m t < 2 ^ 32)
  (hF : RF w wr gR gT gH gK N tx hv) (hW : Pre wr gW 120 64 (fun j => .int .u32 (wt m j : Nat))) (hS : Pre wr gs 120 8 (hst st)) (hsK : gK < gs) (hcs : 8 ≤ cs)
  (hQ : ∀ (x18 x19 x20 x21 x22 x155 x156 x157 x158 x159 x160 x161 x162 x163 x164 x165 x166 x167 x168 x169 x170 x171 x172 x173 x174 x175 x176 x177 x178 x179 x180 x181 x182 x183 x184 x185 x186 x187 x188 x189 x190 x191 x192 x193 x194 x195 x196 x197 x198 x199 x200 x201 x202 x203 x204 x205 x206 x207 x208 x209 x210 x211 x212 x213 x214 x215 x216 x217 x218 x219 x220 x221 x222 x223 x224 x225 x226 x227 x228 x229 x230 x231 x232 x233 x234 x235 x236 x237 x238 x239 x240 x241 x242 x243 x244 x245 x246 x247 x248 x249 x250 x251 x252 x253 x254 x255 x256 x257 x258 x259 x260 x261 x262 x263 x264 x265 x266 x267 x268 x269 x270 : Value) (gs' cs' : Nat) (w' : World),RF w w' gR gT gH gK N tx hv → Pre w' gs' 120 8 (hst (roundsN m st 64)) → gK < gs' → 8 ≤ cs' →
   Q0 .normal ⟨#[u0,u1,u2,u3,u4,u5,u6,u7,.slice (some ⟨gK,0,none⟩) 64 64,u9,.slice (some ⟨gW,0,none⟩) 64 cW,u11,u12,u13,u14,u15,u16,.slice (some ⟨gs',0,none⟩) 8 cs',x18,x19,x20,x21,x22,u23,u24,u25,u26,u27,u28,u29,u30,u31,u32,u33,u34,u35,u36,u37,u38,u39,u40,u41,u42,u43,u44,u45,u46,u47,u48,u49,u50,u51,u52,u53,u54,u55,u56,u57,u58,u59,u60,u61,u62,u63,u64,u65,u66,u67,u68,u69,u70,u71,u72,u73,u74,u75,u76,u77,u78,u79,u80,u81,u82,u83,u84,u85,u86,u87,u88,u89,u90,u91,u92,u93,u94,u95,u96,u97,u98,u99,u100,u101,u102,u103,u104,u105,u106,u107,u108,u109,u110,u111,u112,u113,u114,u115,u116,u117,u118,u119,u120,u121,u122,u123,u124,u125,u126,u127,u128,u129,u130,u131,u132,u133,u134,u135,u136,u137,u138,u139,u140,u141,u142,u143,u144,u145,u146,u147,u148,u149,u150,u151,u152,u153,u154,x155,x156,x157,x158,x159,x160,x161,x162,x163,x164,x165,x166,x167,x168,x169,x170,x171,x172,x173,x174,x175,x176,x177,x178,x179,x180,x181,x182,x183,x184,x185,x186,x187,x188,x189,x190,x191,x192,x193,x194,x195,x196,x197,x198,x199,x200,x201,x202,x203,x204,x205,x206,x207,x208,x209,x210,x211,x212,x213,x214,x215,x216,x217,x218,x219,x220,x221,x222,x223,x224,x225,x226,x227,x228,x229,x230,x231,x232,x233,x234,x235,x236,x237,x238,x239,x240,x241,x242,x243,x244,x245,x246,x247,x248,x249,x250,x251,x252,x253,x254,x255,x256,x257,x258,x259,x260,x261,x262,x263,x264,x265,x266,x267,x268,x269,x270,u271,u272,u273,u274,u275,u276,u277,u278,u279,u280,u281,u282,u283,u284,u285,u286,u287,u288,u289,u290,u291,u292,u293,u294,u295,u296,u297,u298,u299,u300,u301,u302,u303,u304,u305,u306,u307,u308,u309,u310,u311,u312,u313,u314,u315,u316,u317,u318,u319,u320,u321,u322,u323,u324,u325,u326,u327,u328,u329,u330,u331,u332],[]⟩ w') :
  Code.wp Tryz.prog (piece 8) Q0 ⟨#[u0,u1,u2,u3,u4,u5,u6,u7,.slice (some ⟨gK,0,none⟩) 64 64,u9,.slice (some ⟨gW,0,none⟩) 64 cW,u11,u12,u13,u14,u15,u16,.slice (some ⟨gs,0,none⟩) 8 cs,.int .i64 0,u19,u20,u21,u22,u23,u24,u25,u26,u27,u28,u29,u30,u31,u32,u33,u34,u35,u36,u37,u38,u39,u40,u41,u42,u43,u44,u45,u46,u47,u48,u49,u50,u51,u52,u53,u54,u55,u56,u57,u58,u59,u60,u61,u62,u63,u64,u65,u66,u67,u68,u69,u70,u71,u72,u73,u74,u75,u76,u77,u78,u79,u80,u81,u82,u83,u84,u85,u86,u87,u88,u89,u90,u91,u92,u93,u94,u95,u96,u97,u98,u99,u100,u101,u102,u103,u104,u105,u106,u107,u108,u109,u110,u111,u112,u113,u114,u115,u116,u117,u118,u119,u120,u121,u122,u123,u124,u125,u126,u127,u128,u129,u130,u131,u132,u133,u134,u135,u136,u137,u138,u139,u140,u141,u142,u143,u144,u145,u146,u147,u148,u149,u150,u151,u152,u153,u154,u155,u156,u157,u158,u159,u160,u161,u162,u163,u164,u165,u166,u167,u168,u169,u170,u171,u172,u173,u174,u175,u176,u177,u178,u179,u180,u181,u182,u183,u184,u185,u186,u187,u188,u189,u190,u191,u192,u193,u194,u195,u196,u197,u198,u199,u200,u201,u202,u203,u204,u205,u206,u207,u208,u209,u210,u211,u212,u213,u214,u215,u216,u217,u218,u219,u220,u221,u222,u223,u224,u225,u226,u227,u228,u229,u230,u231,u232,u233,u234,u235,u236,u237,u238,u239,u240,u241,u242,u243,u244,u245,u246,u247,u248,u249,u250,u251,u252,u253,u254,u255,u256,u257,u258,u259,u260,u261,u262,u263,u264,u265,u266,u267,u268,u269,u270,u271,u272,u273,u274,u275,u276,u277,u278,u279,u280,u281,u282,u283,u284,u285,u286,u287,u288,u289,u290,u291,u292,u293,u294,u295,u296,u297,u298,u299,u300,u301,u302,u303,u304,u305,u306,u307,u308,u309,u310,u311,u312,u313,u314,u315,u316,u317,u318,u319,u320,u321,u322,u323,u324,u325,u326,u327,u328,u329,u330,u331,u332],[]⟩ wr:=by
 conv => arg 2; whnf
 have HQ:=veil hQ
 have HS:=veil hst0
 have HM:=veil hm
 clear hQ hst0 hm
 go_wp2
 go_loopw [17,18] (fun v17 v18 wr => ∃ t gs cs a b c d e f q h : Nat,t ≤ 64 ∧ 8 ≤ cs ∧ gK < gs ∧ v18 = .int .i64 (t : Int) ∧ v17 = .slice (some ⟨gs,0,none⟩) 8 cs ∧ Hid (roundsN m st t = ⟨a,b,c,d,e,f,q,h⟩) ∧ Pre wr gs 120 8 (hst ⟨a,b,c,d,e,f,q,h⟩) ∧ Pre wr gW 120 64 (fun j => .int .u32 (wt m j : Nat)) ∧ RF w wr gR gT gH gK N tx hv)
  (fun _ v18 _ => 64 - (intOf v18).toNat)
 case atStart => exact ⟨0,gs,cs,st.a,st.b,st.c,st.d,st.e,st.f,st.g,st.h,by omega,hcs,hsK,rfl,rfl,rfl,hS,hW,hF⟩
 case round =>
  obtain ⟨t,gs,cs,a,b,c,d,e,f,q,h,ht,hcs,hsK,rfl,rfl,hr,hS,hW,hF⟩:=hrel
  have hok : (⟨a,b,c,d,e,f,q,h⟩ : St).Ok:=hr.out ▸ zia HS.out t
  by_cases hlt : t < 64
  ·
   have hd1 : decide ((t : Int) < 64) = true:=by simp; omega
   obtain ⟨c0,c1,c2,c3,c4,c5,c6,c7⟩:=st8 hS
   have ck:=hF.k.cell hlt
   have cw:=hW.cell hlt
   obtain ⟨k,hk⟩ : ∃ k,k = kc t:=⟨_,rfl⟩
   obtain ⟨x,hx⟩ : ∃ x,x = wt m t:=⟨_,rfl⟩
   rw [← hk] at ck
   rw [← hx] at cw
   have la:=hok.a; have lb:=hok.b; have lc:=hok.c; have le:=hok.e; have lf:=hok.f; have lq:=hok.g
   obtain ⟨ne,hne⟩ : ∃ n,n = 4294967295 - e:=⟨_,rfl⟩
   have hnl : ne < 2 ^ 32:=by omega
   have hni : 4294967295 - (e : Int) = (ne : Int):=by simp only at le; omega
   have hnw : IntKind.u32.wrap (ne : Int) = (ne : Int):=by rw [wrap32]; omega
   have n1:=and32 e f le lf
   have n2:=and32 ne q hnl lq
   have n3 : bits .or .u32 ((e &&& f : Nat) : Int) ((ne &&& q : Nat) : Int) = ((chN e f q : Nat) : Int):=by
    rw [or32 _ _ (Nat.lt_of_le_of_lt Nat.and_le_left le) (Nat.lt_of_le_of_lt Nat.and_le_left hnl),ch_or le,hne]
   have n4:=and32 a b la lb
   have n5:=and32 a c la lc
   have n6:=and32 b c lb lc
   have m1 : a &&& b < 2 ^ 32:=Nat.lt_of_le_of_lt Nat.and_le_left la
   have m2 : a &&& c < 2 ^ 32:=Nat.lt_of_le_of_lt Nat.and_le_left la
   have m3 : b &&& c < 2 ^ 32:=Nat.lt_of_le_of_lt Nat.and_le_left lb
   have n7:=or32 _ _ m1 m2
   have n8 : bits .or .u32 (((a &&& b) ||| (a &&& c) : Nat) : Int) ((b &&& c : Nat) : Int) = ((majN a b c : Nat) : Int):=by
    rw [or32 _ _ (Nat.or_lt_two_pow (n:=32) m1 m2) m3,maj_or]
   obtain ⟨ra,hra,lra⟩ : ∃ r,r = rot e 6 ∧ r < 2 ^ 32:=⟨_,rfl,zbg (by omega) le⟩
   obtain ⟨rb,hrb,lrb⟩ : ∃ r,r = rot e 11 ∧ r < 2 ^ 32:=⟨_,rfl,zbg (by omega) le⟩
   obtain ⟨rc,hrc,lrc⟩ : ∃ r,r = rot e 25 ∧ r < 2 ^ 32:=⟨_,rfl,zbg (by omega) le⟩
   obtain ⟨rd,hrd,lrd⟩ : ∃ r,r = rot a 2 ∧ r < 2 ^ 32:=⟨_,rfl,zbg (by omega) la⟩
   obtain ⟨re,hre,lre⟩ : ∃ r,r = rot a 13 ∧ r < 2 ^ 32:=⟨_,rfl,zbg (by omega) la⟩
   obtain ⟨rf,hrf,lrf⟩ : ∃ r,r = rot a 22 ∧ r < 2 ^ 32:=⟨_,rfl,zbg (by omega) la⟩
   have R1 : Hid (∀ W,Calls Tryz.prog 70 #[.int .u32 (e : Int),.int .i64 6] W fun e w' => e = .returned (.int .u32 (ra : Int)) ∧ w' = W):=veil (fun W => zee (m:=6) hra le (by decide) rfl W)
   have R2 : Hid (∀ W,Calls Tryz.prog 70 #[.int .u32 (e : Int),.int .i64 11] W fun e w' => e = .returned (.int .u32 (rb : Int)) ∧ w' = W):=veil (fun W => zee (m:=11) hrb le (by decide) rfl W)
   have R3 : Hid (∀ W,Calls Tryz.prog 70 #[.int .u32 (e : Int),.int .i64 25] W fun e w' => e = .returned (.int .u32 (rc : Int)) ∧ w' = W):=veil (fun W => zee (m:=25) hrc le (by decide) rfl W)
   have R4 : Hid (∀ W,Calls Tryz.prog 70 #[.int .u32 (a : Int),.int .i64 2] W fun e w' => e = .returned (.int .u32 (rd : Int)) ∧ w' = W):=veil (fun W => zee (m:=2) hrd la (by decide) rfl W)
   have R5 : Hid (∀ W,Calls Tryz.prog 70 #[.int .u32 (a : Int),.int .i64 13] W fun e w' => e = .returned (.int .u32 (re : Int)) ∧ w' = W):=veil (fun W => zee (m:=13) hre la (by decide) rfl W)
   have R6 : Hid (∀ W,Calls Tryz.prog 70 #[.int .u32 (a : Int),.int .i64 22] W fun e w' => e = .returned (.int .u32 (rf : Int)) ∧ w' = W):=veil (fun W => zee (m:=22) hrf la (by decide) rfl W)
   have xo1:=xor32 ra rb lra lrb
   have xo2 : bits .xor .u32 ((ra ^^^ rb : Nat) : Int) (rc : Int) = ((bs1 e : Nat) : Int):=by rw [xor32 _ _ (Nat.xor_lt_two_pow (n:=32) lra lrb) lrc,hra,hrb,hrc]; rfl
   have xo3:=xor32 rd re lrd lre
   have xo4 : bits .xor .u32 ((rd ^^^ re : Nat) : Int) (rf : Int) = ((bs0 a : Nat) : Int):=by rw [xor32 _ _ (Nat.xor_lt_two_pow (n:=32) lrd lre) lrf,hrd,hre,hrf]; rfl
   obtain ⟨B1,hB1⟩ : ∃ s,s = bs1 e:=⟨_,rfl⟩
   obtain ⟨B0,hB0⟩ : ∃ s,s = bs0 a:=⟨_,rfl⟩
   obtain ⟨CH,hCH⟩ : ∃ s,s = chN e f q:=⟨_,rfl⟩
   obtain ⟨MJ,hMJ⟩ : ∃ s,s = majN a b c:=⟨_,rfl⟩
   rw [← hB1] at xo2
   rw [← hB0] at xo4
   rw [← hCH] at n3
   rw [← hMJ] at n8
   generalize ra ^^^ rb = rab at *
   generalize rd ^^^ re = rde at *
   generalize (a &&& b) ||| (a &&& c) = mab at *
   generalize a &&& b = m_ab at *
   generalize a &&& c = m_ac at *
   generalize b &&& c = m_bc at *
   generalize e &&& f = m_ef at *
   generalize ne &&& q = m_nq at *
   obtain ⟨A1,hA1⟩ : ∃ s,s = ad h B1:=⟨_,rfl⟩
   obtain ⟨A2,hA2⟩ : ∃ s,s = ad A1 CH:=⟨_,rfl⟩
   obtain ⟨A3,hA3⟩ : ∃ s,s = ad A2 k:=⟨_,rfl⟩
   obtain ⟨T1,hT1⟩ : ∃ s,s = ad A3 x:=⟨_,rfl⟩
   obtain ⟨T2,hT2⟩ : ∃ s,s = ad B0 MJ:=⟨_,rfl⟩
   obtain ⟨NA,hNA⟩ : ∃ s,s = ad T1 T2:=⟨_,rfl⟩
   obtain ⟨ND,hND⟩ : ∃ s,s = ad d T1:=⟨_,rfl⟩
   have a1 : ((h : Int) + (B1 : Int)) % 4294967296 = (A1 : Int):=by rw [zds,hA1]
   have a2 : ((A1 : Int) + (CH : Int)) % 4294967296 = (A2 : Int):=by rw [zds,hA2]
   have a3 : ((A2 : Int) + (k : Int)) % 4294967296 = (A3 : Int):=by rw [zds,hA3]
   have a4 : ((A3 : Int) + (x : Int)) % 4294967296 = (T1 : Int):=by rw [zds,hT1]
   have a5 : ((B0 : Int) + (MJ : Int)) % 4294967296 = (T2 : Int):=by rw [zds,hT2]
   have a6 : ((T1 : Int) + (T2 : Int)) % 4294967296 = (NA : Int):=by rw [zds,hNA]
   have a7 : ((d : Int) + (T1 : Int)) % 4294967296 = (ND : Int):=by rw [zds,hND]
   have v1 : IntKind.u32.wrap ((h : Int) + (B1 : Int)) = (A1 : Int):=by rw [zcu,hA1]
   have v2 : IntKind.u32.wrap ((A1 : Int) + (CH : Int)) = (A2 : Int):=by rw [zcu,hA2]
   have v3 : IntKind.u32.wrap ((A2 : Int) + (k : Int)) = (A3 : Int):=by rw [zcu,hA3]
   have v4 : IntKind.u32.wrap ((A3 : Int) + (x : Int)) = (T1 : Int):=by rw [zcu,hT1]
   have v5 : IntKind.u32.wrap ((B0 : Int) + (MJ : Int)) = (T2 : Int):=by rw [zcu,hT2]
   have v6 : IntKind.u32.wrap ((T1 : Int) + (T2 : Int)) = (NA : Int):=by rw [zcu,hNA]
   have v7 : IntKind.u32.wrap ((d : Int) + (T1 : Int)) = (ND : Int):=by rw [zcu,hND]
   have jt : (t : Int) < 64:=by omega
   have wt64 : IntKind.i64.wrap (t : Int) = (t : Int):=IntWalk.i64_in _ (by omega)
   have HKX:=veil (And.intro hk hx)
   have HX:=veil (show roundsN m st (t + 1) = ⟨NA,a,b,c,ND,e,f,q⟩ by
    show stepN (roundsN m st t) (kc t) (wt m t) = _
    rw [hr.out,hNA,hND,hT1,hT2,hA3,hA2,hA1,hB1,hB0,hCH,hMJ,hk,hx]
    rfl)
   have G35:=veil (And.intro n4 (And.intro n5 (And.intro n6 (And.intro n7 n8))))
   have G36:=veil (And.intro xo1 (And.intro xo2 (And.intro a1 (And.intro a2 (And.intro a3 (And.intro a4 (And.intro v1 (And.intro v2 (And.intro v3 v4)))))))))
   have G37:=veil (And.intro xo3 (And.intro xo4 (And.intro a5 v5)))
   have G38:=veil (And.intro a6 (And.intro a7 (And.intro v6 v7)))
   clear n4 n5 n6 n7 n8 xo1 xo2 a1 a2 a3 a4 v1 v2 v3 v4 xo3 xo4 a5 v5 a6 a7 v6 v7
   clear hNA hND hT1 hT2 hA3 hA2 hA1 hB1 hB0 hCH hMJ hk hx hra hrb hrc hrd hre hrf hne m1 m2 m3 la lb lc le lf lq hok lra lrb lrc lrd lre lrf hnl hr
   go_wp2
   refine wp_region_still_lit (by kernel_rfl) (by kernel_rfl) ?_
   repeat still_step
   refine wpStill_nil ?_
   change Exit.then _ _ _ _ wr.drew
   replace hF:=hF.drew
   replace hS:=hS.drew
   replace hW:=hW.drew
   clear c0 c1 c2 c3 c4 c5 c6 c7 ck cw
   clear n1 n2 n3 hni hnw
   obtain ⟨n4,n5,n6,n7,n8⟩:=G35.out
   generalize wr.drew = wr at *
   obtain ⟨c0,c1,c2,c3,c4,c5,c6,c7⟩:=st8 hS
   have ck:=hF.k.cell hlt
   have cw:=hW.cell hlt
   rw [← HKX.out.1] at ck
   rw [← HKX.out.2] at cw
   go_wp2
   refine wp_region_still_lit (by kernel_rfl) (by kernel_rfl) ?_
   repeat still_step
   refine wpStill_nil ?_
   change Exit.then _ _ _ _ wr.drew
   replace hF:=hF.drew
   replace hS:=hS.drew
   replace hW:=hW.drew
   clear c0 c1 c2 c3 c4 c5 c6 c7 ck cw
   clear n4 n5 n6 n7 n8
   obtain ⟨xo1,xo2,a1,a2,a3,a4,v1,v2,v3,v4⟩:=G36.out
   generalize wr.drew = wr at *
   obtain ⟨c0,c1,c2,c3,c4,c5,c6,c7⟩:=st8 hS
   have ck:=hF.k.cell hlt
   have cw:=hW.cell hlt
   rw [← HKX.out.1] at ck
   rw [← HKX.out.2] at cw
   go_wp2
   refine wp_region_still_lit (by kernel_rfl) (by kernel_rfl) ?_
   repeat still_step
   still_call (by first | ((with_reducible refine (R1.out _).mono ?_); rintro e w' ⟨rfl,rfl⟩; exact ⟨rfl,rfl⟩))
   repeat still_step
   still_call (by first | ((with_reducible refine (R2.out _).mono ?_); rintro e w' ⟨rfl,rfl⟩; exact ⟨rfl,rfl⟩))
   repeat still_step
   still_call (by first | ((with_reducible refine (R3.out _).mono ?_); rintro e w' ⟨rfl,rfl⟩; exact ⟨rfl,rfl⟩))
   repeat still_step
   refine wpStill_nil ?_
   change Exit.then _ _ _ _ wr.drew
   replace hF:=hF.drew
   replace hS:=hS.drew
   replace hW:=hW.drew
   clear c0 c1 c2 c3 c4 c5 c6 c7 ck cw
   clear xo1 xo2 a1 a2 a3 a4 v1 v2 v3 v4 R1 R2 R3
   obtain ⟨xo3,xo4,a5,v5⟩:=G37.out
   generalize wr.drew = wr at *
   obtain ⟨c0,c1,c2,c3,c4,c5,c6,c7⟩:=st8 hS
   have ck:=hF.k.cell hlt
   have cw:=hW.cell hlt
   rw [← HKX.out.1] at ck
   rw [← HKX.out.2] at cw
   go_wp2
   refine wp_region_still_lit (by kernel_rfl) (by kernel_rfl) ?_
   repeat still_step
   still_call (by first | ((with_reducible refine (R4.out _).mono ?_); rintro e w' ⟨rfl,rfl⟩; exact ⟨rfl,rfl⟩))
   repeat still_step
   still_call (by first | ((with_reducible refine (R5.out _).mono ?_); rintro e w' ⟨rfl,rfl⟩; exact ⟨rfl,rfl⟩))
   repeat still_step
   still_call (by first | ((with_reducible refine (R6.out _).mono ?_); rintro e w' ⟨rfl,rfl⟩; exact ⟨rfl,rfl⟩))
   repeat still_step
   refine wpStill_nil ?_
   change Exit.then _ _ _ _ wr.drew
   replace hF:=hF.drew
   replace hS:=hS.drew
   replace hW:=hW.drew
   clear c0 c1 c2 c3 c4 c5 c6 c7 ck cw
   clear xo3 xo4 a5 v5 R4 R5 R6
   obtain ⟨a6,a7,v6,v7⟩:=G38.out
   generalize wr.drew = wr at *
   obtain ⟨c0,c1,c2,c3,c4,c5,c6,c7⟩:=st8 hS
   have ck:=hF.k.cell hlt
   have cw:=hW.cell hlt
   rw [← HKX.out.1] at ck
   rw [← HKX.out.2] at cw
   go_wp2
   clear ck cw
   go_still_tail 26,(by kernel_rfl)
   change wpList _ _ _ _ _ wr.drew
   replace hF:=hF.drew
   replace hW:=hW.drew
   clear c0 c1 c2 c3 c4 c5 c6 c7 hS a6 a7 v6 v7
   generalize wr.drew = wr at *
   have hz:=hF.lt
   have hS' : Pre (wr.alloc (.cells #[.int .u32 (NA : Int),.int .u32 (a : Int),.int .u32 (b : Int),.int .u32 (c : Int),.int .u32 (ND : Int),.int .u32 (e : Int),.int .u32 (f : Int),.int .u32 (q : Int)] 120)) wr.heap.size 120 8 (hst ⟨NA,a,b,c,ND,e,f,q⟩):=Pre.of_row (zcb wr 8 120 (hst ⟨NA,a,b,c,ND,e,f,q⟩) rfl)
   have hF':=hF.alloc (.cells #[.int .u32 (NA : Int),.int .u32 (a : Int),.int .u32 (b : Int),.int .u32 (c : Int),.int .u32 (ND : Int),.int .u32 (e : Int),.int .u32 (f : Int),.int .u32 (q : Int)] 120)
   have hW':=hW.alloc (.cells #[.int .u32 (NA : Int),.int .u32 (a : Int),.int .u32 (b : Int),.int .u32 (c : Int),.int .u32 (ND : Int),.int .u32 (e : Int),.int .u32 (f : Int),.int .u32 (q : Int)] 120)
   clear hF hW
   go_wp2
   go_roundw
   case rel => exact ⟨t + 1,_,8,NA,a,b,c,ND,e,f,q,by omega,by omega,hz,by go_num,rfl,HX,hS',hW',hF'⟩
   case measure => simp [intOf]; omega
  ·
   have e64 : t = 64:=by omega
   have hd1 : decide ((t : Int) < 64) = false:=by simp; omega
   have hS' : Pre wr gs 120 8 (hst (roundsN m st 64)):=by rw [← e64,hr.out]; exact hS
   clear e64 hlt ht hr hS hok
   go_wp2
   exact HQ.out _ _ _ _ _ _ _ _ _ _ _ _ _ _ _ _ _ _ _ _ _ _ _ _ _ _ _ _ _ _ _ _ _ _ _ _ _ _ _ _ _ _ _ _ _ _ _ _ _ _ _ _ _ _ _ _ _ _ _ _ _ _ _ _ _ _ _ _ _ _ _ _ _ _ _ _ _ _ _ _ _ _ _ _ _ _ _ _ _ _ _ _ _ _ _ _ _ _ _ _ _ _ _ _ _ _ _ _ _ _ _ _ _ _ _ _ _ _ _ _ _ gs cs wr hF hS' hsK hcs
end Go.Proofs.YtihophdbkjhopaaGreatDoor
