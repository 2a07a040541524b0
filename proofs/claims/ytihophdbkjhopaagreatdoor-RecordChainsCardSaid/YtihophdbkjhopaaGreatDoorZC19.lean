/-
  Of SSched.
-/
import Derived.Test.YtihophdbkjhopaaGreatDoorZC10
set_option maxRecDepth 1000000
set_option maxHeartbeats 20000000
namespace Go.Proofs.YtihophdbkjhopaaGreatDoor
open Go.RowKit
open Go.Value renaming int → vI
open Go.IntKind renaming u64 → vU
open Go.Act renaming put → aP
open List renaming setIfInBounds_toArray → lA, set_cons_zero → lZ, set_cons_succ → lS
def mOf (y : Nat → Nat) (n q : Nat) : Nat → Nat:=fun t => word (padded y n) (64 * q + 4 * t)
theorem zfk {y : Nat → Nat} (hy : ∀ j,y j < 256) (n i : Nat) : padded y n i < 256:=by
 unfold padded
 split
 ·
  exact hy i
 ·
  split
  ·
   omega
  ·
   split
   ·
    omega
   ·
    exact Nat.mod_lt _ (by omega)
theorem word_lt {b : Nat → Nat} (hb : ∀ j,b j < 256) (i : Nat) : word b i < 2 ^ 32:=by
 unfold word
 have h0:=hb i; have h1:=hb (i + 1); have h2:=hb (i + 2); have h3:=hb (i + 3)
 omega
theorem mOf_lt {y : Nat → Nat} (hy : ∀ j,y j < 256) (n q t : Nat) : wt (mOf y n q) t < 2 ^ 32:=wt_lt (fun _ _ => word_lt (zfk hy n) _) t
theorem t4_alloc {gT i i1 i2 i3 : Nat} {v0 v1 v2 v3 : Value} {W : World} {o : Obj} (hlt : gT < W.heap.size) (h : W.cell? ⟨gT,i,none⟩ = some v0 ∧ W.cell? ⟨gT,i1,none⟩ = some v1 ∧ W.cell? ⟨gT,i2,none⟩ = some v2 ∧ W.cell? ⟨gT,i3,none⟩ = some v3) :
  (W.alloc o).cell? ⟨gT,i,none⟩ = some v0 ∧ (W.alloc o).cell? ⟨gT,i1,none⟩ = some v1 ∧ (W.alloc o).cell? ⟨gT,i2,none⟩ = some v2 ∧ (W.alloc o).cell? ⟨gT,i3,none⟩ = some v3:=by
 have e : ∀ j,(W.alloc o).cell? ⟨gT,j,none⟩ = W.cell? ⟨gT,j,none⟩:=fun j => World.cell?_alloc_lt _ _ _ hlt
 rw [e,e,e,e]; exact h
theorem t4_grown {gT i i1 i2 i3 : Nat} {v0 v1 v2 v3 : Value} {W W' : World} {row : Option Nat} (hg : W.grownBy W' row) (hlt : gT < W.heap.size) (hne : some gT ≠ row) (h : W.cell? ⟨gT,i,none⟩ = some v0 ∧ W.cell? ⟨gT,i1,none⟩ = some v1 ∧ W.cell? ⟨gT,i2,none⟩ = some v2 ∧ W.cell? ⟨gT,i3,none⟩ = some v3) :
  W'.cell? ⟨gT,i,none⟩ = some v0 ∧ W'.cell? ⟨gT,i1,none⟩ = some v1 ∧ W'.cell? ⟨gT,i2,none⟩ = some v2 ∧ W'.cell? ⟨gT,i3,none⟩ = some v3:=by
 have e : ∀ j,W'.cell? ⟨gT,j,none⟩ = W.cell? ⟨gT,j,none⟩:=fun j => hg.cell_far ⟨gT,j,none⟩ hlt hne
 rw [e,e,e,e]; exact h
theorem t2_alloc {g i j : Nat} {v0 v1 : Value} {W : World} {o : Obj} (hlt : g < W.heap.size) (h : W.cell? ⟨g,i,none⟩ = some v0 ∧ W.cell? ⟨g,j,none⟩ = some v1) :
  (W.alloc o).cell? ⟨g,i,none⟩ = some v0 ∧ (W.alloc o).cell? ⟨g,j,none⟩ = some v1:=by
 have e : ∀ j,(W.alloc o).cell? ⟨g,j,none⟩ = W.cell? ⟨g,j,none⟩:=fun j => World.cell?_alloc_lt _ _ _ hlt
 rw [e,e]; exact h
theorem t2_same {g i j n : Nat} {v0 v1 : Value} {W W' : World} (hi : i < n) (hj : j < n) (hs : ∀ j,j < n → W'.cell? ⟨g,j,none⟩ = W.cell? ⟨g,j,none⟩) (h : W.cell? ⟨g,i,none⟩ = some v0 ∧ W.cell? ⟨g,j,none⟩ = some v1) :
  W'.cell? ⟨g,i,none⟩ = some v0 ∧ W'.cell? ⟨g,j,none⟩ = some v1:=by
 rw [hs i hi,hs j hj]; exact h
def findBlock (k : Nat) : Code → Option Code
 | .block j c => if j = k then some (.block j c) else findBlock k c
 | .seq a b => match findBlock k a with
  | some c => some c
  | none => findBlock k b
 | .cond _ a b => match findBlock k a with
  | some c => some c
  | none => findBlock k b
 | .loop c => findBlock k c
 | .scope c => findBlock k c
 | _ => none
noncomputable def piece (k : Nat) : Code:=(Tryz.f36.body.bind (findBlock k)).getD .skip
theorem sched_piece {u0 u1 u2 u4 u5 u6 u7 u8 u12 u13 u14 u15 u16 u17 u18 u19 u20 u21 u22 u23 u24 u25 u26 u27 u28 u29 u30 u31 u32 u33 u34 u35 u36 u37 u38 u39 u40 u41 u42 u43 u44 u45 u46 u47 u48 u49 u50 u51 u52 u53 u54 u55 u56 u57 u58 u59 u60 u61 u62 u63 u64 u65 u66 u67 u68 u69 u70 u71 u72 u73 u74 u75 u76 u77 u78 u79 u80 u81 u82 u83 u84 u85 u86 u87 u88 u89 u90 u91 u92 u93 u94 u95 u96 u97 u98 u99 u100 u101 u102 u103 u104 u105 u106 u107 u108 u109 u110 u111 u112 u113 u114 u115 u116 u117 u118 u119 u120 u121 u122 u123 u124 u125 u126 u127 u128 u129 u130 u131 u132 u133 u134 u135 u136 u137 u138 u139 u140 u141 u142 u143 u144 u145 u146 u147 u148 u149 u150 u151 u152 u153 u154 u155 u156 u157 u158 u159 u160 u161 u162 u163 u164 u165 u166 u167 u168 u169 u170 u171 u172 u173 u174 u175 u176 u177 u178 u179 u180 u181 u182 u183 u184 u185 u186 u187 u188 u189 u190 u191 u192 u193 u194 u195 u196 u197 u198 u199 u200 u201 u202 u203 u204 u205 u206 u207 u208 u209 u210 u211 u212 u213 u214 u215 u216 u217 u218 u219 u220 u221 u222 u223 u224 u225 u226 u227 u228 u229 u230 u231 u232 u233 u234 u235 u236 u237 u238 u239 u240 u241 u242 u243 u244 u245 u246 u247 u248 u249 u250 u251 u252 u253 u254 u255 u256 u257 u258 u259 u260 u261 u262 u263 u264 u265 u266 u267 u268 u269 u270 u271 u272 u273 u274 u275 u276 u277 u278 u279 u280 u281 u282 u283 u284 u285 u286 u287 u288 u289 u290 u291 u292 u293 u294 u295 u296 u297 u298 u299 u300 u301 u302 u303 u304 u305 u306 u307 u308 u309 u310 u311 u312 u313 u314 u315 u316 u317 u318 u319 u320 u321 u322 u323 u324 u325 u326 u327 u328 u329 u330 u331 u332 : Value} {w wr : World} {gR gT gH gK N cT : Nat} {y : Nat → Nat} {n q a : Nat} {st : Nat → Value} {Q0 : Exit → Act → World → Prop} (hy : ∀ j,y j < 256) (ha : a = 64 * q) (haN : a + 64 ≤ N) (hN : N ≤ 2097152)
  (hF : RF w wr gR gT gH gK N (txv y n) st)
  (hQ : ∀ (x11 x12 x13 x14 x15 x16 x66 x67 x68 x69 x70 x71 x72 x73 x74 x75 x76 x77 x78 x79 x80 x81 x82 x83 x84 x85 x86 x87 x88 x89 x90 x91 x92 x93 x94 x95 x96 x97 x98 x99 x100 x101 x102 x103 x104 x105 x106 x107 x108 x109 x110 x111 x112 x113 x114 x115 x116 x117 x118 x119 x120 x121 x122 x123 x124 x125 x126 x127 x128 x129 x130 x131 x132 x133 x134 x135 x136 x137 x138 x139 x140 x141 x142 x143 x144 x145 x146 x147 x148 x149 x150 x151 : Value) (gW cW : Nat) (w' : World),RF w w' gR gT gH gK N (txv y n) st → Pre w' gW 120 64 (fun j => .int .u32 (wt (mOf y n q) j : Nat)) → gK < gW →
   Q0 .normal ⟨#[u0,u1,u2,.slice (some ⟨gT,0,none⟩) N cT,u4,u5,u6,u7,u8,.int .i64 (a : Int),.slice (some ⟨gW,0,none⟩) 64 cW,x11,x12,x13,x14,x15,x16,u17,u18,u19,u20,u21,u22,u23,u24,u25,u26,u27,u28,u29,u30,u31,u32,u33,u34,u35,u36,u37,u38,u39,u40,u41,u42,u43,u44,u45,u46,u47,u48,u49,u50,u51,u52,u53,u54,u55,u56,u57,u58,u59,u60,u61,u62,u63,u64,u65,x66,x67,x68,x69,x70,x71,x72,x73,x74,x75,x76,x77,x78,x79,x80,x81,x82,x83,x84,x85,x86,x87,x88,x89,x90,x91,x92,x93,x94,x95,x96,x97,x98,x99,x100,x101,x102,x103,x104,x105,x106,x107,x108,x109,x110,x111,x112,x113,x114,x115,x116,x117,x118,x119,x120,x121,x122,x123,x124,x125,x126,x127,x128,x129,x130,x131,x132,x133,x134,x135,x136,x137,x138,x139,x140,x141,x142,x143,x144,x145,x146,x147,x148,x149,x150,x151,u152,u153,u154,u155,u156,u157,u158,u159,u160,u161,u162,u163,u164,u165,u166,u167,u168,u169,u170,u171,u172,u173,u174,u175,u176,u177,u178,u179,u180,u181,u182,u183,u184,u185,u186,u187,u188,u189,u190,u191,u192,u193,u194,u195,u196,u197,u198,u199,u200,u201,u202,u203,u204,u205,u206,u207,u208,u209,u210,u211,u212,u213,u214,u215,u216,u217,u218,u219,u220,u221,u222,u223,u224,u225,u226,u227,u228,u229,u230,u231,u232,u233,u234,u235,u236,u237,u238,u239,u240,u241,u242,u243,u244,u245,u246,u247,u248,u249,u250,u251,u252,u253,u254,u255,u256,u257,u258,u259,u260,u261,u262,u263,u264,u265,u266,u267,u268,u269,u270,u271,u272,u273,u274,u275,u276,u277,u278,u279,u280,u281,u282,u283,u284,u285,u286,u287,u288,u289,u290,u291,u292,u293,u294,u295,u296,u297,u298,u299,u300,u301,u302,u303,u304,u305,u306,u307,u308,u309,u310,u311,u312,u313,u314,u315,u316,u317,u318,u319,u320,u321,u322,u323,u324,u325,u326,u327,u328,u329,u330,u331,u332],[]⟩ w') :
  Code.wp Tryz.prog (piece 6) Q0 ⟨#[u0,u1,u2,.slice (some ⟨gT,0,none⟩) N cT,u4,u5,u6,u7,u8,.int .i64 (a : Int),.slice none 0 0,.int .i64 0,u12,u13,u14,u15,u16,u17,u18,u19,u20,u21,u22,u23,u24,u25,u26,u27,u28,u29,u30,u31,u32,u33,u34,u35,u36,u37,u38,u39,u40,u41,u42,u43,u44,u45,u46,u47,u48,u49,u50,u51,u52,u53,u54,u55,u56,u57,u58,u59,u60,u61,u62,u63,u64,u65,u66,u67,u68,u69,u70,u71,u72,u73,u74,u75,u76,u77,u78,u79,u80,u81,u82,u83,u84,u85,u86,u87,u88,u89,u90,u91,u92,u93,u94,u95,u96,u97,u98,u99,u100,u101,u102,u103,u104,u105,u106,u107,u108,u109,u110,u111,u112,u113,u114,u115,u116,u117,u118,u119,u120,u121,u122,u123,u124,u125,u126,u127,u128,u129,u130,u131,u132,u133,u134,u135,u136,u137,u138,u139,u140,u141,u142,u143,u144,u145,u146,u147,u148,u149,u150,u151,u152,u153,u154,u155,u156,u157,u158,u159,u160,u161,u162,u163,u164,u165,u166,u167,u168,u169,u170,u171,u172,u173,u174,u175,u176,u177,u178,u179,u180,u181,u182,u183,u184,u185,u186,u187,u188,u189,u190,u191,u192,u193,u194,u195,u196,u197,u198,u199,u200,u201,u202,u203,u204,u205,u206,u207,u208,u209,u210,u211,u212,u213,u214,u215,u216,u217,u218,u219,u220,u221,u222,u223,u224,u225,u226,u227,u228,u229,u230,u231,u232,u233,u234,u235,u236,u237,u238,u239,u240,u241,u242,u243,u244,u245,u246,u247,u248,u249,u250,u251,u252,u253,u254,u255,u256,u257,u258,u259,u260,u261,u262,u263,u264,u265,u266,u267,u268,u269,u270,u271,u272,u273,u274,u275,u276,u277,u278,u279,u280,u281,u282,u283,u284,u285,u286,u287,u288,u289,u290,u291,u292,u293,u294,u295,u296,u297,u298,u299,u300,u301,u302,u303,u304,u305,u306,u307,u308,u309,u310,u311,u312,u313,u314,u315,u316,u317,u318,u319,u320,u321,u322,u323,u324,u325,u326,u327,u328,u329,u330,u331,u332],[]⟩ wr:=by
 conv => arg 2; whnf
 obtain ⟨i32,hi32,hw0,hw1,hw2⟩:=info_parts infoU32
 have HI4:=veil (And.intro hi32 (And.intro hw0 (And.intro hw1 hw2)))
 have HQ:=veil hQ
 have HY:=veil hy
 have HA:=veil ha
 have hO0 : Own wr (gK + 1) 120 (.slice none 0 0) 0 (fun j => .int .u32 (wt (mOf y n q) j : Nat)):=Own.nil _ _ _ _
 clear hQ hi32 hw0 hw1 hw2 hy ha
 go_wp2
 go_loopw [10,11] (fun v10 v11 wr => ∃ t : Nat,t ≤ 64 ∧ v11 = .int .i64 (t : Int) ∧ Own wr (gK + 1) 120 v10 t (fun j => .int .u32 (wt (mOf y n q) j : Nat)) ∧ RF w wr gR gT gH gK N (txv y n) st)
  (fun _ v11 _ => 64 - (intOf v11).toNat)
 case atStart => exact ⟨0,by omega,rfl,hO0,hF⟩
 case round =>
  obtain ⟨t,ht,rfl,hO,hF⟩:=hrel
  by_cases hlt : t < 64
  ·
   by_cases h16 : t < 16
   ·
    have hd1 : decide ((t : Int) < 64) = true:=by simp; omega
    have hd2 : decide ((t : Int) < 16) = true:=by simp; omega
    have hz:=hF.lt
    obtain ⟨i,hi⟩ : ∃ i,i = 64 * q + 4 * t:=⟨_,rfl⟩
    have hai:=HA.out
    have e1 : (a : Int) + 4 * (t : Int) = (i : Int):=by omega
    have e2 : (i : Int) + 1 = ((i + 1 : Nat) : Int):=by omega
    have e3 : (i : Int) + 2 = ((i + 2 : Nat) : Int):=by omega
    have e4 : (i : Int) + 3 = ((i + 3 : Nat) : Int):=by omega
    have hi3 : i + 3 < N:=by omega
    obtain ⟨b0,hb0⟩ : ∃ b,b = padded y n i:=⟨_,rfl⟩
    obtain ⟨b1,hb1⟩ : ∃ b,b = padded y n (i + 1):=⟨_,rfl⟩
    obtain ⟨b2,hb2⟩ : ∃ b,b = padded y n (i + 2):=⟨_,rfl⟩
    obtain ⟨b3,hb3⟩ : ∃ b,b = padded y n (i + 3):=⟨_,rfl⟩
    have l0 : b0 < 256:=by rw [hb0]; exact zfk HY.out n _
    have l1 : b1 < 256:=by rw [hb1]; exact zfk HY.out n _
    have l2 : b2 < 256:=by rw [hb2]; exact zfk HY.out n _
    have l3 : b3 < 256:=by rw [hb3]; exact zfk HY.out n _
    have c0 : wr.cell? ⟨gT,i,none⟩ = some (.int .u8 (b0 : Int)):=by rw [hF.text.cell (by omega),hb0]; rfl
    have c1 : wr.cell? ⟨gT,i + 1,none⟩ = some (.int .u8 (b1 : Int)):=by rw [hF.text.cell (by omega),hb1]; rfl
    have c2 : wr.cell? ⟨gT,i + 2,none⟩ = some (.int .u8 (b2 : Int)):=by rw [hF.text.cell (by omega),hb2]; rfl
    have c3 : wr.cell? ⟨gT,i + 3,none⟩ = some (.int .u8 (b3 : Int)):=by rw [hF.text.cell (by omega),hb3]; rfl
    have hx : wt (mOf y n q) t = b0 * 16777216 + b1 * 65536 + b2 * 256 + b3:=by
     rw [wt_lo _ h16,hb0,hb1,hb2,hb3,hi]; rfl
    generalize i + 1 = i1 at *
    generalize i + 2 = i2 at *
    generalize i + 3 = i3 at *
    obtain ⟨P0,hP0⟩ : ∃ P,P = b0 * 16777216:=⟨_,rfl⟩
    obtain ⟨P1,hP1⟩ : ∃ P,P = b1 * 65536:=⟨_,rfl⟩
    obtain ⟨P2,hP2⟩ : ∃ P,P = b2 * 256:=⟨_,rfl⟩
    obtain ⟨s1,hs1⟩ : ∃ s,s = P0 + P1:=⟨_,rfl⟩
    obtain ⟨s2,hs2⟩ : ∃ s,s = s1 + P2:=⟨_,rfl⟩
    obtain ⟨x,hxx⟩ : ∃ s,s = s2 + b3:=⟨_,rfl⟩
    have r1 : (b0 : Int) * 16777216 = (P0 : Int):=by omega
    have r2 : (b1 : Int) * 65536 = (P1 : Int):=by omega
    have r3 : (b2 : Int) * 256 = (P2 : Int):=by omega
    have r4 : (P0 : Int) + (P1 : Int) = (s1 : Int):=by omega
    have r5 : (s1 : Int) + (P2 : Int) = (s2 : Int):=by omega
    have r6 : (s2 : Int) + (b3 : Int) = (x : Int):=by omega
    have kk1 : IntKind.u32.wrap (P0 : Int) = (P0 : Int):=by rw [wrap32]; omega
    have kk2 : IntKind.u32.wrap (P1 : Int) = (P1 : Int):=by rw [wrap32]; omega
    have kk3 : IntKind.u32.wrap (P2 : Int) = (P2 : Int):=by rw [wrap32]; omega
    have kk4 : IntKind.u32.wrap (s1 : Int) = (s1 : Int):=by rw [wrap32]; omega
    have kk5 : IntKind.u32.wrap (s2 : Int) = (s2 : Int):=by rw [wrap32]; omega
    have kk6 : IntKind.u32.wrap (x : Int) = (x : Int):=by rw [wrap32]; omega
    have kk7 : IntKind.u32.wrap (b0 : Int) = (b0 : Int):=by rw [wrap32]; omega
    have kk8 : IntKind.u32.wrap (b1 : Int) = (b1 : Int):=by rw [wrap32]; omega
    have kk9 : IntKind.u32.wrap (b2 : Int) = (b2 : Int):=by rw [wrap32]; omega
    have kk10 : IntKind.u32.wrap (b3 : Int) = (b3 : Int):=by rw [wrap32]; omega
    have z1 : IntKind.i64.wrap (i1 : Int) = (i1 : Int):=IntWalk.i64_in _ (by omega)
    have z2 : IntKind.i64.wrap (i2 : Int) = (i2 : Int):=IntWalk.i64_in _ (by omega)
    have z3 : IntKind.i64.wrap (i3 : Int) = (i3 : Int):=IntWalk.i64_in _ (by omega)
    have z0 : IntKind.i64.wrap (i : Int) = (i : Int):=IntWalk.i64_in _ (by omega)
    have n0 : (i : Int) < (N : Int):=by omega
    have n1 : (i1 : Int) < (N : Int):=by omega
    have n2 : (i2 : Int) < (N : Int):=by omega
    have n3 : (i3 : Int) < (N : Int):=by omega
    have hX : wt (mOf y n q) t = x:=by omega
    have hgT : gT < wr.heap.size:=hF.text.lt
    have hgTK : gT < gK + 1:=by have:=hF.o2; have:=hF.o3; omega
    have HX:=veil (And.intro hX (And.intro hgT (And.intro hgTK hlt)))
    have hFr : From (wr.alloc (.cells #[.int .u32 (x : Int)] 120)).drew (some ⟨wr.heap.size,0,none⟩) 1 (fun _ => .int .u32 (x : Int)):=zfq wr (.int .u32 (x : Int)) 120
    have HL:=veil (And.intro ((hO.alloc (.cells #[.int .u32 (x : Int)] 120)).drew) (And.intro hFr hF))
    have HB:=veil (show t + 1 ≤ maxLen ∧ (t + 1) * 4 ≤ 140737488355328 ∧ gK + 1 ≤ ((wr.alloc (.cells #[.int .u32 (x : Int)] 120)).drew).heap.size from ⟨by unfold maxLen; omega,by omega,by show gK + 1 ≤ (wr.heap.push _).size; simp; omega⟩)
    clear hX hgT hgTK hFr hF hO hx hP0 hP1 hP2 hs1 hs2 hxx hb0 hb1 hb2 hb3 hi hai hi3 hlt h16 hz
    go_wp2_with fail
    go_region_held3 (fun w' => w'.cell? ⟨gT,i,none⟩ = some (.int .u8 (b0 : Int)) ∧ w'.cell? ⟨gT,i1,none⟩ = some (.int .u8 (b1 : Int)) ∧ w'.cell? ⟨gT,i2,none⟩ = some (.int .u8 (b2 : Int)) ∧ w'.cell? ⟨gT,i3,none⟩ = some (.int .u8 (b3 : Int)))
     (first
      | with_reducible assumption
      | exact ⟨c0,c1,c2,c3⟩
      | with_reducible exact t4_alloc HX.out.2.1 (by assumption)
      | exact t4_alloc HX.out.2.1 (by assumption)
      | exact t4_grown hgrow (by have:=HX.out; simp; omega) (fun e => by have:=(HL.out.1.lt e.symm).1; have:=HX.out; omega) (by assumption))
     ((refine zdk _ (by rfl) _ _ _ (by rfl) (gK + 1) 120 i32 (.int .u32 0) 4 Tryz.underlying121 HI4.out.1 HI4.out.2.1 HI4.out.2.2.1 HI4.out.2.2.2 rfl u10 t _ (by rfl) HL.out.1 (some ⟨wr.heap.size,0,none⟩) 1 1 (by rfl) _ HL.out.2.1 (fun _ => rfl) HB.out.1 HB.out.2.1 HB.out.2.2 ?_; intro v' w1 hown1 hgrow hat hsame; obtain ⟨g1,k1,rfl,hcc,hgg,hpre⟩:=hown1.pre (Nat.succ_pos t)))
    have hF1:=((HL.out.2.2.alloc (.cells #[.int .u32 (x : Int)] 120)).drew).grown hgrow (fun k e => (HL.out.1.lt e).1)
    have hO1 : Own w1 (gK + 1) 120 (.slice (some ⟨g1,0,none⟩) (t + 1) k1) (t + 1) (fun j => .int .u32 (wt (mOf y n q) j : Nat)):=hown1.congr fun j hj => by
     by_cases h : j < t
     ·
      rw [if_pos h]
     ·
      rw [if_neg h,← HX.out.1,show j = t by omega]
    clear hown1 hgrow hat hsame hpre HL HB c0 c1 c2 c3
    rename_i hHeld
    clear hHeld
    have hlt:=HX.out.2.2.2
    go_wp2
    go_roundw
    case rel => exact ⟨t + 1,by omega,by go_num,hO1,hF1⟩
    case measure => simp [intOf]; omega
   ·
    obtain ⟨gv,cv,rfl,hcv,hgv,hpv⟩:=hO.pre (show 0 < t by omega)
    have hd1 : decide ((t : Int) < 64) = true:=by simp; omega
    have hd2 : decide ((t : Int) < 16) = false:=by simp; omega
    have c2:=hpv.cell (show t - 2 < t by omega)
    have c7:=hpv.cell (show t - 7 < t by omega)
    have c15:=hpv.cell (show t - 15 < t by omega)
    have c16:=hpv.cell (show t - 16 < t by omega)
    have hwt:=wt_hi (mOf y n q) h16
    have l2:=mOf_lt HY.out n q (t - 2)
    have l7:=mOf_lt HY.out n q (t - 7)
    have l15:=mOf_lt HY.out n q (t - 15)
    have l16:=mOf_lt HY.out n q (t - 16)
    have i2 : (t : Int) - 2 = ((t - 2 : Nat) : Int):=by omega
    have i7 : (t : Int) - 7 = ((t - 7 : Nat) : Int):=by omega
    have i15 : (t : Int) - 15 = ((t - 15 : Nat) : Int):=by omega
    have i16 : (t : Int) - 16 = ((t - 16 : Nat) : Int):=by omega
    have b2 : t - 2 < t:=by omega
    have b7 : t - 7 < t:=by omega
    have b15 : t - 15 < t:=by omega
    have b16 : t - 16 < t:=by omega
    obtain ⟨x2,hx2⟩ : ∃ x,x = wt (mOf y n q) (t - 2):=⟨_,rfl⟩
    obtain ⟨x7,hx7⟩ : ∃ x,x = wt (mOf y n q) (t - 7):=⟨_,rfl⟩
    obtain ⟨x15,hx15⟩ : ∃ x,x = wt (mOf y n q) (t - 15):=⟨_,rfl⟩
    obtain ⟨x16,hx16⟩ : ∃ x,x = wt (mOf y n q) (t - 16):=⟨_,rfl⟩
    rw [← hx2] at c2 hwt l2
    rw [← hx7] at c7 hwt l7
    rw [← hx15] at c15 hwt l15
    rw [← hx16] at c16 hwt l16
    generalize t - 2 = t2 at *
    generalize t - 7 = t7 at *
    generalize t - 15 = t15 at *
    generalize t - 16 = t16 at *
    obtain ⟨s0,hs0⟩ : ∃ s,s = sg0 x15:=⟨_,rfl⟩
    obtain ⟨s1,hs1⟩ : ∃ s,s = sg1 x2:=⟨_,rfl⟩
    rw [← hs0,← hs1] at hwt
    obtain ⟨A1,hA1⟩ : ∃ s,s = ad s1 x7:=⟨_,rfl⟩
    obtain ⟨A2,hA2⟩ : ∃ s,s = ad A1 s0:=⟨_,rfl⟩
    obtain ⟨x,hxx⟩ : ∃ s,s = ad A2 x16:=⟨_,rfl⟩
    rw [← hA1,← hA2,← hxx] at hwt
    have a1 : ((s1 : Int) + (x7 : Int)) % 4294967296 = (A1 : Int):=by rw [zds,hA1]
    have a2 : ((A1 : Int) + (s0 : Int)) % 4294967296 = (A2 : Int):=by rw [zds,hA2]
    have a3 : ((A2 : Int) + (x16 : Int)) % 4294967296 = (x : Int):=by rw [zds,hxx]
    have a4 : IntKind.u32.wrap ((s1 : Int) + (x7 : Int)) = (A1 : Int):=by rw [zcu,hA1]
    have a5 : IntKind.u32.wrap ((A1 : Int) + (s0 : Int)) = (A2 : Int):=by rw [zcu,hA2]
    have a6 : IntKind.u32.wrap ((A2 : Int) + (x16 : Int)) = (x : Int):=by rw [zcu,hxx]
    have w2 : IntKind.i64.wrap (t2 : Int) = (t2 : Int):=IntWalk.i64_in _ (by omega)
    have w7 : IntKind.i64.wrap (t7 : Int) = (t7 : Int):=IntWalk.i64_in _ (by omega)
    have w15 : IntKind.i64.wrap (t15 : Int) = (t15 : Int):=IntWalk.i64_in _ (by omega)
    have w16 : IntKind.i64.wrap (t16 : Int) = (t16 : Int):=IntWalk.i64_in _ (by omega)
    have j2 : (t2 : Int) < (t : Int):=by omega
    have j7 : (t7 : Int) < (t : Int):=by omega
    have j15 : (t15 : Int) < (t : Int):=by omega
    have j16 : (t16 : Int) < (t : Int):=by omega
    obtain ⟨ra,hra,lra⟩ : ∃ r,r = rot x15 7 ∧ r < 2 ^ 32:=⟨_,rfl,zbg (by omega) l15⟩
    obtain ⟨rb,hrb,lrb⟩ : ∃ r,r = rot x15 18 ∧ r < 2 ^ 32:=⟨_,rfl,zbg (by omega) l15⟩
    obtain ⟨rc,hrc,lrc⟩ : ∃ r,r = x15 / 2 ^ 3 ∧ r < 2 ^ 32:=⟨_,rfl,shr_lt 3 l15⟩
    obtain ⟨rd,hrd,lrd⟩ : ∃ r,r = rot x2 17 ∧ r < 2 ^ 32:=⟨_,rfl,zbg (by omega) l2⟩
    obtain ⟨re,hre,lre⟩ : ∃ r,r = rot x2 19 ∧ r < 2 ^ 32:=⟨_,rfl,zbg (by omega) l2⟩
    obtain ⟨rf,hrf,lrf⟩ : ∃ r,r = x2 / 2 ^ 10 ∧ r < 2 ^ 32:=⟨_,rfl,shr_lt 10 l2⟩
    have R1 : Hid (∀ W,Calls Tryz.prog 70 #[.int .u32 (x15 : Int),.int .i64 7] W fun e w' => e = .returned (.int .u32 (ra : Int)) ∧ W = w'):=veil (fun W => by rw [hra]; exact (zdy x15 7 l15 (by decide) W).mono fun _ _ h => ⟨h.1,h.2.symm⟩)
    have R2 : Hid (∀ W,Calls Tryz.prog 70 #[.int .u32 (x15 : Int),.int .i64 18] W fun e w' => e = .returned (.int .u32 (rb : Int)) ∧ W = w'):=veil (fun W => by rw [hrb]; exact (zdy x15 18 l15 (by decide) W).mono fun _ _ h => ⟨h.1,h.2.symm⟩)
    have R3 : Hid (∀ W,Calls Tryz.prog 71 #[.int .u32 (x15 : Int),.int .i64 3] W fun e w' => e = .returned (.int .u32 (rc : Int)) ∧ W = w'):=veil (fun W => by rw [hrc]; exact (shift_calls x15 3 l15 (by decide) W).mono fun _ _ h => ⟨h.1,h.2.symm⟩)
    have R4 : Hid (∀ W,Calls Tryz.prog 70 #[.int .u32 (x2 : Int),.int .i64 17] W fun e w' => e = .returned (.int .u32 (rd : Int)) ∧ W = w'):=veil (fun W => by rw [hrd]; exact (zdy x2 17 l2 (by decide) W).mono fun _ _ h => ⟨h.1,h.2.symm⟩)
    have R5 : Hid (∀ W,Calls Tryz.prog 70 #[.int .u32 (x2 : Int),.int .i64 19] W fun e w' => e = .returned (.int .u32 (re : Int)) ∧ W = w'):=veil (fun W => by rw [hre]; exact (zdy x2 19 l2 (by decide) W).mono fun _ _ h => ⟨h.1,h.2.symm⟩)
    have R6 : Hid (∀ W,Calls Tryz.prog 71 #[.int .u32 (x2 : Int),.int .i64 10] W fun e w' => e = .returned (.int .u32 (rf : Int)) ∧ W = w'):=veil (fun W => by rw [hrf]; exact (shift_calls x2 10 l2 (by decide) W).mono fun _ _ h => ⟨h.1,h.2.symm⟩)
    have xo1:=xor32 ra rb lra lrb
    have xo2 : bits .xor .u32 ((ra ^^^ rb : Nat) : Int) (rc : Int) = (s0 : Int):=by rw [xor32 _ _ (Nat.xor_lt_two_pow (n:=32) lra lrb) lrc,hs0,hra,hrb,hrc]; rfl
    have xo3:=xor32 rd re lrd lre
    have xo4 : bits .xor .u32 ((rd ^^^ re : Nat) : Int) (rf : Int) = (s1 : Int):=by rw [xor32 _ _ (Nat.xor_lt_two_pow (n:=32) lrd lre) lrf,hs1,hrd,hre,hrf]; rfl
    generalize ra ^^^ rb = rab at *
    generalize rd ^^^ re = rde at *
    have hz:=hF.lt
    have hFr : From (wr.alloc (.cells #[.int .u32 (x : Int)] 120)).drew (some ⟨wr.heap.size,0,none⟩) 1 (fun _ => .int .u32 (x : Int)):=zfq wr (.int .u32 (x : Int)) 120
    have HL:=veil (And.intro ((hO.alloc (.cells #[.int .u32 (x : Int)] 120)).drew) (And.intro hFr hF))
    have HB:=veil (show t + 1 ≤ maxLen ∧ (t + 1) * 4 ≤ 140737488355328 ∧ gK + 1 ≤ ((wr.alloc (.cells #[.int .u32 (x : Int)] 120)).drew).heap.size from ⟨by unfold maxLen; omega,by omega,by show gK + 1 ≤ (wr.heap.push _).size; simp; omega⟩)
    have HX:=veil (And.intro hwt (And.intro hpv.lt (And.intro b7 (And.intro b16 hlt))))
    clear hF hO hpv hra hrb hrc hrd hre hrf hs0 hs1 hA1 hA2 hxx hx2 hx7 hx15 hx16 hwt lra lrb lrc lrd lre lrf l2 l7 l15 l16 hlt h16 hz hFr
    go_wp2_with (first
     | (go_at_call 70; (first | ((with_reducible refine (R1.out _).mono ?_); rintro e w' ⟨rfl,rfl⟩) | ((with_reducible refine (R2.out _).mono ?_); rintro e w' ⟨rfl,rfl⟩) | ((with_reducible refine (R4.out _).mono ?_); rintro e w' ⟨rfl,rfl⟩) | ((with_reducible refine (R5.out _).mono ?_); rintro e w' ⟨rfl,rfl⟩)))
     | (go_at_call 71; (first | ((with_reducible refine (R3.out _).mono ?_); rintro e w' ⟨rfl,rfl⟩) | ((with_reducible refine (R6.out _).mono ?_); rintro e w' ⟨rfl,rfl⟩))))
    clear R1 R2 R3 R4 R5 R6 xo1 xo2 xo3 xo4
    go_region_held3 (fun w' => w'.cell? ⟨gv,t7,none⟩ = some (.int .u32 (x7 : Int)) ∧ w'.cell? ⟨gv,t16,none⟩ = some (.int .u32 (x16 : Int)))
     (first
      | with_reducible assumption
      | exact ⟨c7,c16⟩
      | exact t2_alloc HX.out.2.1 (by assumption)
      | exact t2_same (by exact HX.out.2.2.1) (by exact HX.out.2.2.2.1) (hsame gv rfl) (by assumption))
     ((refine zdk _ (by rfl) _ _ _ (by rfl) (gK + 1) 120 i32 (.int .u32 0) 4 Tryz.underlying121 HI4.out.1 HI4.out.2.1 HI4.out.2.2.1 HI4.out.2.2.2 rfl (.slice (some ⟨gv,0,none⟩) t cv) t _ (by rfl) HL.out.1 (some ⟨wr.heap.size,0,none⟩) 1 1 (by rfl) _ HL.out.2.1 (fun _ => rfl) HB.out.1 HB.out.2.1 HB.out.2.2 ?_; intro v' w1 hown1 hgrow hat hsame; obtain ⟨g1,k1,rfl,hcc,hgg,hpre⟩:=hown1.pre (Nat.succ_pos t)))
    have hF1:=((HL.out.2.2.alloc (.cells #[.int .u32 (x : Int)] 120)).drew).grown hgrow (fun k e => (HL.out.1.lt e).1)
    have hO1 : Own w1 (gK + 1) 120 (.slice (some ⟨g1,0,none⟩) (t + 1) k1) (t + 1) (fun j => .int .u32 (wt (mOf y n q) j : Nat)):=hown1.congr fun j hj => by
     by_cases h : j < t
     ·
      rw [if_pos h]
     ·
      rw [if_neg h,← HX.out.1,show j = t by omega]
    clear hown1 hgrow hat hsame hpre HL HB c2 c7 c15 c16
    rename_i hHeld
    clear hHeld
    have hlt:=HX.out.2.2.2.2
    go_wp2
    go_roundw
    case rel => exact ⟨t + 1,by omega,by go_num,hO1,hF1⟩
    case measure => simp [intOf]; omega
  ·
   have e64 : t = 64:=by omega
   have hd1 : decide ((t : Int) < 64) = false:=by simp; omega
   obtain ⟨gW,cW,rfl,hcW,hgW,hpW⟩:=hO.pre (show 0 < t by omega)
   have HE:=veil e64
   clear e64 hlt ht
   go_wp2
   have he:=HE.out
   subst he
   exact HQ.out _ _ _ _ _ _ _ _ _ _ _ _ _ _ _ _ _ _ _ _ _ _ _ _ _ _ _ _ _ _ _ _ _ _ _ _ _ _ _ _ _ _ _ _ _ _ _ _ _ _ _ _ _ _ _ _ _ _ _ _ _ _ _ _ _ _ _ _ _ _ _ _ _ _ _ _ _ _ _ _ _ _ _ _ _ _ _ _ _ _ _ _ gW cW wr hF hpW (by omega)
end Go.Proofs.YtihophdbkjhopaaGreatDoor
