/-
  Of SAddp SOutp.
-/
import Derived.Deep.RegionLaw
import Derived.Test.YtihophdbkjhopaaGreatDoorZA19
set_option maxRecDepth 1000000
set_option maxHeartbeats 20000000
namespace Go.Proofs.YtihophdbkjhopaaGreatDoor
open Go.RowKit
open Go.Value renaming int → vI
open Go.IntKind renaming u64 → vU
open Go.Act renaming put → aP
open List renaming setIfInBounds_toArray → lA, set_cons_zero → lZ, set_cons_succ → lS
theorem add_piece {u0 u1 u2 u3 u4 u5 u6 u8 u9 u10 u11 u12 u13 u14 u15 u16 u18 u19 u20 u21 u22 u24 u25 u26 u27 u28 u29 u30 u31 u32 u33 u34 u35 u36 u37 u38 u39 u40 u41 u42 u43 u44 u45 u46 u47 u48 u49 u50 u51 u52 u53 u54 u55 u56 u57 u58 u59 u60 u61 u62 u63 u64 u65 u66 u67 u68 u69 u70 u71 u72 u73 u74 u75 u76 u77 u78 u79 u80 u81 u82 u83 u84 u85 u86 u87 u88 u89 u90 u91 u92 u93 u94 u95 u96 u97 u98 u99 u100 u101 u102 u103 u104 u105 u106 u107 u108 u109 u110 u111 u112 u113 u114 u115 u116 u117 u118 u119 u120 u121 u122 u123 u124 u125 u126 u127 u128 u129 u130 u131 u132 u133 u134 u135 u136 u137 u138 u139 u140 u141 u142 u143 u144 u145 u146 u147 u148 u149 u150 u151 u152 u153 u154 u155 u156 u157 u158 u159 u160 u161 u162 u163 u164 u165 u166 u167 u168 u169 u170 u171 u172 u173 u174 u175 u176 u177 u178 u179 u180 u181 u182 u183 u184 u185 u186 u187 u188 u189 u190 u191 u192 u193 u194 u195 u196 u197 u198 u199 u200 u201 u202 u203 u204 u205 u206 u207 u208 u209 u210 u211 u212 u213 u214 u215 u216 u217 u218 u219 u220 u221 u222 u223 u224 u225 u226 u227 u228 u229 u230 u231 u232 u233 u234 u235 u236 u237 u238 u239 u240 u241 u242 u243 u244 u245 u246 u247 u248 u249 u250 u251 u252 u253 u254 u255 u256 u257 u258 u259 u260 u261 u262 u263 u264 u265 u266 u267 u268 u269 u270 u271 u272 u273 u274 u275 u276 u277 u278 u279 u280 u281 u282 u283 u284 u285 u286 u287 u288 u289 u290 u291 u292 u293 u294 u295 u296 u297 u298 u299 u300 u301 u302 u303 u304 u305 u306 u307 u308 u309 u310 u311 u312 u313 u314 u315 u316 u317 u318 u319 u320 u321 u322 u323 u324 u325 u326 u327 u328 u329 u330 u331 u332 : Value} {w wr : World} {gR gT gH gK gs N cs : Nat} {tx : Nat → Value} {s r : St} {Q0 : Exit → Act → World → Prop}
  (hF : RF w wr gR gT gH gK N tx (hst s)) (hS : Pre wr gs 120 8 (hst r)) (hsK : gK < gs)
  (hQ : ∀ (x23 x271 x272 x273 x274 x275 x276 x277 x278 x279 x280 x281 x282 x283 x284 x285 x286 : Value) (w' : World),RF w w' gR gT gH gK N tx (hst (addSt s r)) → Q0 .normal ⟨#[u0,u1,u2,u3,u4,u5,u6,.slice (some ⟨gH,0,none⟩) 8 8,u8,u9,u10,u11,u12,u13,u14,u15,u16,.slice (some ⟨gs,0,none⟩) 8 cs,u18,u19,u20,u21,u22,x23,u24,u25,u26,u27,u28,u29,u30,u31,u32,u33,u34,u35,u36,u37,u38,u39,u40,u41,u42,u43,u44,u45,u46,u47,u48,u49,u50,u51,u52,u53,u54,u55,u56,u57,u58,u59,u60,u61,u62,u63,u64,u65,u66,u67,u68,u69,u70,u71,u72,u73,u74,u75,u76,u77,u78,u79,u80,u81,u82,u83,u84,u85,u86,u87,u88,u89,u90,u91,u92,u93,u94,u95,u96,u97,u98,u99,u100,u101,u102,u103,u104,u105,u106,u107,u108,u109,u110,u111,u112,u113,u114,u115,u116,u117,u118,u119,u120,u121,u122,u123,u124,u125,u126,u127,u128,u129,u130,u131,u132,u133,u134,u135,u136,u137,u138,u139,u140,u141,u142,u143,u144,u145,u146,u147,u148,u149,u150,u151,u152,u153,u154,u155,u156,u157,u158,u159,u160,u161,u162,u163,u164,u165,u166,u167,u168,u169,u170,u171,u172,u173,u174,u175,u176,u177,u178,u179,u180,u181,u182,u183,u184,u185,u186,u187,u188,u189,u190,u191,u192,u193,u194,u195,u196,u197,u198,u199,u200,u201,u202,u203,u204,u205,u206,u207,u208,u209,u210,u211,u212,u213,u214,u215,u216,u217,u218,u219,u220,u221,u222,u223,u224,u225,u226,u227,u228,u229,u230,u231,u232,u233,u234,u235,u236,u237,u238,u239,u240,u241,u242,u243,u244,u245,u246,u247,u248,u249,u250,u251,u252,u253,u254,u255,u256,u257,u258,u259,u260,u261,u262,u263,u264,u265,u266,u267,u268,u269,u270,x271,x272,x273,x274,x275,x276,x277,x278,x279,x280,x281,x282,x283,x284,x285,x286,u287,u288,u289,u290,u291,u292,u293,u294,u295,u296,u297,u298,u299,u300,u301,u302,u303,u304,u305,u306,u307,u308,u309,u310,u311,u312,u313,u314,u315,u316,u317,u318,u319,u320,u321,u322,u323,u324,u325,u326,u327,u328,u329,u330,u331,u332],[]⟩ w') :
  Code.wp Tryz.prog (piece 10) Q0 ⟨#[u0,u1,u2,u3,u4,u5,u6,.slice (some ⟨gH,0,none⟩) 8 8,u8,u9,u10,u11,u12,u13,u14,u15,u16,.slice (some ⟨gs,0,none⟩) 8 cs,u18,u19,u20,u21,u22,.int .i64 0,u24,u25,u26,u27,u28,u29,u30,u31,u32,u33,u34,u35,u36,u37,u38,u39,u40,u41,u42,u43,u44,u45,u46,u47,u48,u49,u50,u51,u52,u53,u54,u55,u56,u57,u58,u59,u60,u61,u62,u63,u64,u65,u66,u67,u68,u69,u70,u71,u72,u73,u74,u75,u76,u77,u78,u79,u80,u81,u82,u83,u84,u85,u86,u87,u88,u89,u90,u91,u92,u93,u94,u95,u96,u97,u98,u99,u100,u101,u102,u103,u104,u105,u106,u107,u108,u109,u110,u111,u112,u113,u114,u115,u116,u117,u118,u119,u120,u121,u122,u123,u124,u125,u126,u127,u128,u129,u130,u131,u132,u133,u134,u135,u136,u137,u138,u139,u140,u141,u142,u143,u144,u145,u146,u147,u148,u149,u150,u151,u152,u153,u154,u155,u156,u157,u158,u159,u160,u161,u162,u163,u164,u165,u166,u167,u168,u169,u170,u171,u172,u173,u174,u175,u176,u177,u178,u179,u180,u181,u182,u183,u184,u185,u186,u187,u188,u189,u190,u191,u192,u193,u194,u195,u196,u197,u198,u199,u200,u201,u202,u203,u204,u205,u206,u207,u208,u209,u210,u211,u212,u213,u214,u215,u216,u217,u218,u219,u220,u221,u222,u223,u224,u225,u226,u227,u228,u229,u230,u231,u232,u233,u234,u235,u236,u237,u238,u239,u240,u241,u242,u243,u244,u245,u246,u247,u248,u249,u250,u251,u252,u253,u254,u255,u256,u257,u258,u259,u260,u261,u262,u263,u264,u265,u266,u267,u268,u269,u270,u271,u272,u273,u274,u275,u276,u277,u278,u279,u280,u281,u282,u283,u284,u285,u286,u287,u288,u289,u290,u291,u292,u293,u294,u295,u296,u297,u298,u299,u300,u301,u302,u303,u304,u305,u306,u307,u308,u309,u310,u311,u312,u313,u314,u315,u316,u317,u318,u319,u320,u321,u322,u323,u324,u325,u326,u327,u328,u329,u330,u331,u332],[]⟩ wr:=by
 conv => arg 2; whnf
 have HQ:=veil hQ
 have hne : gs ≠ gH:=by have:=hF.o3; omega
 have HNE:=veil hne
 clear hQ hne
 go_wp2
 go_loopw [23] (fun v wr => ∃ i : Nat,i ≤ 8 ∧ v = .int .i64 (i : Int) ∧ Pre wr gs 120 8 (hst r) ∧ RF w wr gR gT gH gK N tx (fun j => if j < i then hst (addSt s r) j else hst s j))
  (fun v _ => 8 - (intOf v).toNat)
 case atStart => exact ⟨0,by omega,rfl,hS,hF.congrH fun j _ => (if_neg (by omega)).symm⟩
 case round =>
  obtain ⟨i,hi,rfl,hS,hF⟩:=hrel
  by_cases hlt : i < 8
  ·
   have hd1 : decide ((i : Int) < 8) = true:=by simp; omega
   have cs1:=hS.cell hlt
   have ch1:=hF.h.cell hlt
   have fh1:=hF.h.frozen i
   rw [if_neg (by omega)] at ch1
   unfold hst at cs1 ch1
   obtain ⟨x,hx⟩ : ∃ x,x = s.at i:=⟨_,rfl⟩
   obtain ⟨z,hz⟩ : ∃ x,x = r.at i:=⟨_,rfl⟩
   rw [← hx] at ch1
   rw [← hz] at cs1
   have ji : (i : Int) < 8:=by omega
   have wi : IntKind.i64.wrap (i : Int) = (i : Int):=IntWalk.i64_in _ (by omega)
   have sI:=zds x z
   have sW:=zda x z
   have HX:=veil (And.intro hx hz)
   clear hx hz
   go_wp2
   go_still_tail 11,(by kernel_rfl)
   change wpList _ _ _ _ _ wr.drew
   replace hF:=hF.drew
   replace hS:=hS.drew
   have cs2 : wr.drew.cell? ⟨gs,i,none⟩ = some (.int .u32 (z : Int)):=cs1
   have ch2 : wr.drew.cell? ⟨gH,i,none⟩ = some (.int .u32 (x : Int)):=ch1
   have fh2 : wr.drew.frozen? ⟨gH,i,none⟩ = false:=fh1
   clear cs1 ch1 fh1
   generalize wr.drew = wr at *
   go_wp2
   go_roundw
   case rel =>
    refine ⟨i + 1,by omega,by go_num,hS.far HNE.out _,(hF.setH i _).congrH fun j hj => ?_⟩
    by_cases h : j = i
    ·
     subst h
     rw [if_pos rfl,if_pos (by omega)]
     unfold hst
     rw [addSt_at,← HX.out.1,← HX.out.2]
    ·
     rw [if_neg h]
     by_cases h2 : j < i
     ·
      rw [if_pos h2,if_pos (by omega)]
     ·
      rw [if_neg h2,if_neg (by omega)]
   case measure => simp [intOf]; omega
  ·
   have e8 : i = 8:=by omega
   have hd1 : decide ((i : Int) < 8) = false:=by simp; omega
   have hF' : RF w wr gR gT gH gK N tx (hst (addSt s r)):=hF.congrH fun j hj => by rw [if_pos (by omega)]
   clear e8 hlt hi hF
   go_wp2
   exact HQ.out _ _ _ _ _ _ _ _ _ _ _ _ _ _ _ _ _ wr hF'
theorem out_piece {u0 u1 u2 u3 u4 u5 u6 u8 u9 u10 u11 u12 u13 u14 u15 u16 u17 u18 u19 u20 u21 u22 u23 u26 u27 u28 u29 u30 u31 u32 u33 u34 u35 u36 u37 u38 u39 u40 u41 u42 u43 u44 u45 u46 u47 u48 u49 u50 u51 u52 u53 u54 u55 u56 u57 u58 u59 u60 u61 u62 u63 u64 u65 u66 u67 u68 u69 u70 u71 u72 u73 u74 u75 u76 u77 u78 u79 u80 u81 u82 u83 u84 u85 u86 u87 u88 u89 u90 u91 u92 u93 u94 u95 u96 u97 u98 u99 u100 u101 u102 u103 u104 u105 u106 u107 u108 u109 u110 u111 u112 u113 u114 u115 u116 u117 u118 u119 u120 u121 u122 u123 u124 u125 u126 u127 u128 u129 u130 u131 u132 u133 u134 u135 u136 u137 u138 u139 u140 u141 u142 u143 u144 u145 u146 u147 u148 u149 u150 u151 u152 u153 u154 u155 u156 u157 u158 u159 u160 u161 u162 u163 u164 u165 u166 u167 u168 u169 u170 u171 u172 u173 u174 u175 u176 u177 u178 u179 u180 u181 u182 u183 u184 u185 u186 u187 u188 u189 u190 u191 u192 u193 u194 u195 u196 u197 u198 u199 u200 u201 u202 u203 u204 u205 u206 u207 u208 u209 u210 u211 u212 u213 u214 u215 u216 u217 u218 u219 u220 u221 u222 u223 u224 u225 u226 u227 u228 u229 u230 u231 u232 u233 u234 u235 u236 u237 u238 u239 u240 u241 u242 u243 u244 u245 u246 u247 u248 u249 u250 u251 u252 u253 u254 u255 u256 u257 u258 u259 u260 u261 u262 u263 u264 u265 u266 u267 u268 u269 u270 u271 u272 u273 u274 u275 u276 u277 u278 u279 u280 u281 u282 u283 u284 u285 u286 u287 u288 u289 u290 u291 u292 u293 u294 u295 u296 u297 u298 u299 u300 u301 u302 u303 u304 u305 u306 u307 u308 u309 u310 u311 u312 u313 u314 u315 u316 u317 u318 u319 u320 u321 u322 u323 u324 u325 u326 u327 u328 u329 u330 u331 u332 : Value} {w wr : World} {gR gT gH gK gO N : Nat} {tx : Nat → Value} {s : St} {Q0 : Exit → Act → World → Prop} (hs : s.Ok)
  (hF : RF w wr gR gT gH gK N tx (hst s)) (hO : wr.rowIs gO 23 32 (fun _ => .int .u8 0)) (hOK : gK < gO)
  (hQ : ∀ (x25 x287 x288 x289 x290 x291 x292 x293 x294 x295 x296 x297 x298 x299 x300 x301 x302 x303 x304 x305 x306 x307 x308 x309 x310 x311 x312 x313 x314 x315 x316 x317 x318 x319 x320 x321 x322 x323 x324 x325 x326 x327 x328 x329 x330 x331 : Value) (w' : World),RF w w' gR gT gH gK N tx (hst s) → w'.rowIs gO 23 32 (fun p => .int .u8 (dByte s p : Nat)) → Q0 .normal ⟨#[u0,u1,u2,u3,u4,u5,u6,.slice (some ⟨gH,0,none⟩) 8 8,u8,u9,u10,u11,u12,u13,u14,u15,u16,u17,u18,u19,u20,u21,u22,u23,.pointer (some ⟨gO,0,none⟩),x25,u26,u27,u28,u29,u30,u31,u32,u33,u34,u35,u36,u37,u38,u39,u40,u41,u42,u43,u44,u45,u46,u47,u48,u49,u50,u51,u52,u53,u54,u55,u56,u57,u58,u59,u60,u61,u62,u63,u64,u65,u66,u67,u68,u69,u70,u71,u72,u73,u74,u75,u76,u77,u78,u79,u80,u81,u82,u83,u84,u85,u86,u87,u88,u89,u90,u91,u92,u93,u94,u95,u96,u97,u98,u99,u100,u101,u102,u103,u104,u105,u106,u107,u108,u109,u110,u111,u112,u113,u114,u115,u116,u117,u118,u119,u120,u121,u122,u123,u124,u125,u126,u127,u128,u129,u130,u131,u132,u133,u134,u135,u136,u137,u138,u139,u140,u141,u142,u143,u144,u145,u146,u147,u148,u149,u150,u151,u152,u153,u154,u155,u156,u157,u158,u159,u160,u161,u162,u163,u164,u165,u166,u167,u168,u169,u170,u171,u172,u173,u174,u175,u176,u177,u178,u179,u180,u181,u182,u183,u184,u185,u186,u187,u188,u189,u190,u191,u192,u193,u194,u195,u196,u197,u198,u199,u200,u201,u202,u203,u204,u205,u206,u207,u208,u209,u210,u211,u212,u213,u214,u215,u216,u217,u218,u219,u220,u221,u222,u223,u224,u225,u226,u227,u228,u229,u230,u231,u232,u233,u234,u235,u236,u237,u238,u239,u240,u241,u242,u243,u244,u245,u246,u247,u248,u249,u250,u251,u252,u253,u254,u255,u256,u257,u258,u259,u260,u261,u262,u263,u264,u265,u266,u267,u268,u269,u270,u271,u272,u273,u274,u275,u276,u277,u278,u279,u280,u281,u282,u283,u284,u285,u286,x287,x288,x289,x290,x291,x292,x293,x294,x295,x296,x297,x298,x299,x300,x301,x302,x303,x304,x305,x306,x307,x308,x309,x310,x311,x312,x313,x314,x315,x316,x317,x318,x319,x320,x321,x322,x323,x324,x325,x326,x327,x328,x329,x330,x331,u332],[]⟩ w') :
  Code.wp Tryz.prog (piece 12) Q0 ⟨#[u0,u1,u2,u3,u4,u5,u6,.slice (some ⟨gH,0,none⟩) 8 8,u8,u9,u10,u11,u12,u13,u14,u15,u16,u17,u18,u19,u20,u21,u22,u23,.pointer (some ⟨gO,0,none⟩),.int .i64 0,u26,u27,u28,u29,u30,u31,u32,u33,u34,u35,u36,u37,u38,u39,u40,u41,u42,u43,u44,u45,u46,u47,u48,u49,u50,u51,u52,u53,u54,u55,u56,u57,u58,u59,u60,u61,u62,u63,u64,u65,u66,u67,u68,u69,u70,u71,u72,u73,u74,u75,u76,u77,u78,u79,u80,u81,u82,u83,u84,u85,u86,u87,u88,u89,u90,u91,u92,u93,u94,u95,u96,u97,u98,u99,u100,u101,u102,u103,u104,u105,u106,u107,u108,u109,u110,u111,u112,u113,u114,u115,u116,u117,u118,u119,u120,u121,u122,u123,u124,u125,u126,u127,u128,u129,u130,u131,u132,u133,u134,u135,u136,u137,u138,u139,u140,u141,u142,u143,u144,u145,u146,u147,u148,u149,u150,u151,u152,u153,u154,u155,u156,u157,u158,u159,u160,u161,u162,u163,u164,u165,u166,u167,u168,u169,u170,u171,u172,u173,u174,u175,u176,u177,u178,u179,u180,u181,u182,u183,u184,u185,u186,u187,u188,u189,u190,u191,u192,u193,u194,u195,u196,u197,u198,u199,u200,u201,u202,u203,u204,u205,u206,u207,u208,u209,u210,u211,u212,u213,u214,u215,u216,u217,u218,u219,u220,u221,u222,u223,u224,u225,u226,u227,u228,u229,u230,u231,u232,u233,u234,u235,u236,u237,u238,u239,u240,u241,u242,u243,u244,u245,u246,u247,u248,u249,u250,u251,u252,u253,u254,u255,u256,u257,u258,u259,u260,u261,u262,u263,u264,u265,u266,u267,u268,u269,u270,u271,u272,u273,u274,u275,u276,u277,u278,u279,u280,u281,u282,u283,u284,u285,u286,u287,u288,u289,u290,u291,u292,u293,u294,u295,u296,u297,u298,u299,u300,u301,u302,u303,u304,u305,u306,u307,u308,u309,u310,u311,u312,u313,u314,u315,u316,u317,u318,u319,u320,u321,u322,u323,u324,u325,u326,u327,u328,u329,u330,u331,u332],[]⟩ wr:=by
 conv => arg 2; whnf
 have HQ:=veil hQ
 have HS:=veil hs
 clear hQ hs
 go_wp2
 go_loopw [25] (fun v wr => ∃ i : Nat,i ≤ 8 ∧ v = .int .i64 (i : Int) ∧ wr.rowIs gO 23 32 (fun p => .int .u8 ((if p < 4 * i then dByte s p else 0 : Nat) : Int)) ∧ RF w wr gR gT gH gK N tx (hst s))
  (fun v _ => 8 - (intOf v).toNat)
 case atStart => exact ⟨0,by omega,rfl,hO,hF⟩
 case round =>
  obtain ⟨i,hi,rfl,hO,hF⟩:=hrel
  by_cases hlt : i < 8
  ·
   have hd1 : decide ((i : Int) < 8) = true:=by simp; omega
   have ch:=hF.h.cell hlt
   unfold hst at ch
   obtain ⟨x,hx⟩ : ∃ x,x = s.at i:=⟨_,rfl⟩
   have hxl : x < 2 ^ 32:=by rw [hx]; exact St.at_lt HS.out i
   rw [← hx] at ch
   have ji : (i : Int) < 8:=by omega
   obtain ⟨p,hp⟩ : ∃ p,p = 4 * i:=⟨_,rfl⟩
   have e0 : 4 * (i : Int) = (p : Int):=by omega
   have e1 : (p : Int) + 1 = ((p + 1 : Nat) : Int):=by omega
   have e2 : (p : Int) + 2 = ((p + 2 : Nat) : Int):=by omega
   have e3 : (p : Int) + 3 = ((p + 3 : Nat) : Int):=by omega
   have hp3 : p + 3 < 32:=by omega
   have c0:=hO.cell (show p < 32 by omega)
   have c1:=hO.cell (show p + 1 < 32 by omega)
   have c2:=hO.cell (show p + 2 < 32 by omega)
   have c3:=hO.cell (show p + 3 < 32 by omega)
   rw [if_neg (by omega)] at c0 c1 c2 c3
   have f0:=hO.frozen p
   have f1:=hO.frozen (p + 1)
   have f2:=hO.frozen (p + 2)
   have f3:=hO.frozen (p + 3)
   have HX:=veil (And.intro hx hp)
   obtain ⟨b0,hb0⟩ : ∃ b,b = x / 16777216:=⟨_,rfl⟩
   obtain ⟨b1,hb1⟩ : ∃ b,b = x / 65536 % 256:=⟨_,rfl⟩
   obtain ⟨b2,hb2⟩ : ∃ b,b = x / 256 % 256:=⟨_,rfl⟩
   obtain ⟨b3,hb3⟩ : ∃ b,b = x % 256:=⟨_,rfl⟩
   have l0 : b0 < 256:=by omega
   have q0 : (x : Int) / 16777216 = (b0 : Int):=by omega
   have q1 : (x : Int) / 65536 % 256 = (b1 : Int):=by omega
   have q2 : (x : Int) / 256 % 256 = (b2 : Int):=by omega
   have q3 : (x : Int) % 256 = (b3 : Int):=by omega
   have r0 : (b0 : Int) % 256 = (b0 : Int):=by omega
   have HBB:=veil (show b0 = x / 256 ^ 3 % 256 ∧ b1 = x / 256 ^ 2 % 256 ∧ b2 = x / 256 ^ 1 % 256 ∧ b3 = x / 256 ^ 0 % 256 by simp only [Nat.reducePow,Nat.div_one]; omega)
   have x0 : 0 ≤ (x : Int):=by omega
   have x1 : (x : Int) ≤ 4294967295:=by omega
   have hgH : gH ≠ gO:=by have:=hF.o3; omega
   clear hx hp hb0 hb1 hb2 hb3
   generalize p + 1 = p1 at *
   generalize p + 2 = p2 at *
   generalize p + 3 = p3 at *
   go_wp2
   go_roundw
   case rel =>
    refine ⟨i + 1,by omega,by go_num,((((hO.set p _).set p1 _).set p2 _).set p3 _).congr fun j hj => ?_,(((hF.far hOK _).far hOK _).far hOK _).far hOK _⟩
    obtain ⟨hx,hp⟩:=HX.out
    obtain ⟨g0,g1,g2,g3⟩:=HBB.out
    by_cases h3 : j = p3
    ·
     rw [if_pos h3,if_pos (by omega)]; unfold dByte
     rw [show j / 4 = i by omega,show 3 - j % 4 = 0 by omega,← hx,g3]
    ·
     rw [if_neg h3]
     by_cases h2 : j = p2
     ·
      rw [if_pos h2,if_pos (by omega)]; unfold dByte
      rw [show j / 4 = i by omega,show 3 - j % 4 = 1 by omega,← hx,g2]
     ·
      rw [if_neg h2]
      by_cases h1 : j = p1
      ·
       rw [if_pos h1,if_pos (by omega)]; unfold dByte
       rw [show j / 4 = i by omega,show 3 - j % 4 = 2 by omega,← hx,g1]
      ·
       rw [if_neg h1]
       by_cases h0 : j = p
       ·
        rw [if_pos h0,if_pos (by omega)]; unfold dByte
        rw [show j / 4 = i by omega,show 3 - j % 4 = 3 by omega,← hx,g0]
       ·
        rw [if_neg h0]
        by_cases hl : j < 4 * i
        ·
         rw [if_pos hl,if_pos (by omega)]
        ·
         rw [if_neg hl,if_neg (by omega)]
   case measure => simp [intOf]; omega
  ·
   have e8 : i = 8:=by omega
   have hd1 : decide ((i : Int) < 8) = false:=by simp; omega
   have hO' : wr.rowIs gO 23 32 (fun p => .int .u8 (dByte s p : Nat)):=hO.congr fun j hj => by rw [if_pos (by omega)]
   clear e8 hlt hi hO
   go_wp2
   exact HQ.out _ _ _ _ _ _ _ _ _ _ _ _ _ _ _ _ _ _ _ _ _ _ _ _ _ _ _ _ _ _ _ _ _ _ _ _ _ _ _ _ _ _ _ _ _ _ wr hF hO'
end Go.Proofs.YtihophdbkjhopaaGreatDoor
