/-
  Merged: SAddp SOutp SSum.
-/
import Derived.Deep.RegionLaw
import Derived.Deep.CutBlock
import Derived.Test.YthgenmoiendakaaDoorZ14
import Derived.Test.YthgenmoiendakaaDoorZ15

/-
  clapperref03.Sum: what the rounds left goes to the state (the third inner loop).
-/
namespace Go.Proofs.YthgenmoiendakaaDoor
open Go.RowKit

set_option maxRecDepth 1000000 in
set_option maxHeartbeats 8000000 in
theorem add_piece {u0 u1 u2 u3 u4 u5 u6 u8 u9 u10 u11 u12 u13 u14 u15 u16 u18 u19 u20 u21 u22 u24 u25 u26 u27 u28 u29 u30 u31 u32 u33 u34 u35 u36 u37 u38 u39 u40 u41 u42 u43 u44 u45 u46 u47 u48 u49 u50 u51 u52 u53 u54 u55 u56 u57 u58 u59 u60 u61 u62 u63 u64 u65 u66 u67 u68 u69 u70 u71 u72 u73 u74 u75 u76 u77 u78 u79 u80 u81 u82 u83 u84 u85 u86 u87 u88 u89 u90 u91 u92 u93 u94 u95 u96 u97 u98 u99 u100 u101 u102 u103 u104 u105 u106 u107 u108 u109 u110 u111 u112 u113 u114 u115 u116 u117 u118 u119 u120 u121 u122 u123 u124 u125 u126 u127 u128 u129 u130 u131 u132 u133 u134 u135 u136 u137 u138 u139 u140 u141 u142 u143 u144 u145 u146 u147 u148 u149 u150 u151 u152 u153 u154 u155 u156 u157 u158 u159 u160 u161 u162 u163 u164 u165 u166 u167 u168 u169 u170 u171 u172 u173 u174 u175 u176 u177 u178 u179 u180 u181 u182 u183 u184 u185 u186 u187 u188 u189 u190 u191 u192 u193 u194 u195 u196 u197 u198 u199 u200 u201 u202 u203 u204 u205 u206 u207 u208 u209 u210 u211 u212 u213 u214 u215 u216 u217 u218 u219 u220 u221 u222 u223 u224 u225 u226 u227 u228 u229 u230 u231 u232 u233 u234 u235 u236 u237 u238 u239 u240 u241 u242 u243 u244 u245 u246 u247 u248 u249 u250 u251 u252 u253 u254 u255 u256 u257 u258 u259 u260 u261 u262 u263 u264 u265 u266 u267 u268 u269 u270 u271 u272 u273 u274 u275 u276 u277 u278 u279 u280 u281 u282 u283 u284 u285 u286 u287 u288 u289 u290 u291 u292 u293 u294 u295 u296 u297 u298 u299 u300 u301 u302 u303 u304 u305 u306 u307 u308 u309 u310 u311 u312 u313 u314 u315 u316 u317 u318 u319 u320 u321 u322 u323 u324 u325 u326 u327 u328 u329 u330 u331 u332 : Value} {w wr : World} {gR gT gH gK gs N cs : Nat} {tx : Nat → Value} {s r : St} {Q0 : Exit → Act → World → Prop}
    (hF : RF w wr gR gT gH gK N tx (hst s)) (hS : Pre wr gs 68 8 (hst r)) (hsK : gK < gs)
    (hQ : ∀ (x23 x271 x272 x273 x274 x275 x276 x277 x278 x279 x280 x281 x282 x283 x284 x285 x286 : Value) (w' : World), RF w w' gR gT gH gK N tx (hst (addSt s r)) → Q0 .normal ⟨#[u0, u1, u2, u3, u4, u5, u6, .slice (some ⟨gH, 0, none⟩) 8 8, u8, u9, u10, u11, u12, u13, u14, u15, u16, .slice (some ⟨gs, 0, none⟩) 8 cs, u18, u19, u20, u21, u22, x23, u24, u25, u26, u27, u28, u29, u30, u31, u32, u33, u34, u35, u36, u37, u38, u39, u40, u41, u42, u43, u44, u45, u46, u47, u48, u49, u50, u51, u52, u53, u54, u55, u56, u57, u58, u59, u60, u61, u62, u63, u64, u65, u66, u67, u68, u69, u70, u71, u72, u73, u74, u75, u76, u77, u78, u79, u80, u81, u82, u83, u84, u85, u86, u87, u88, u89, u90, u91, u92, u93, u94, u95, u96, u97, u98, u99, u100, u101, u102, u103, u104, u105, u106, u107, u108, u109, u110, u111, u112, u113, u114, u115, u116, u117, u118, u119, u120, u121, u122, u123, u124, u125, u126, u127, u128, u129, u130, u131, u132, u133, u134, u135, u136, u137, u138, u139, u140, u141, u142, u143, u144, u145, u146, u147, u148, u149, u150, u151, u152, u153, u154, u155, u156, u157, u158, u159, u160, u161, u162, u163, u164, u165, u166, u167, u168, u169, u170, u171, u172, u173, u174, u175, u176, u177, u178, u179, u180, u181, u182, u183, u184, u185, u186, u187, u188, u189, u190, u191, u192, u193, u194, u195, u196, u197, u198, u199, u200, u201, u202, u203, u204, u205, u206, u207, u208, u209, u210, u211, u212, u213, u214, u215, u216, u217, u218, u219, u220, u221, u222, u223, u224, u225, u226, u227, u228, u229, u230, u231, u232, u233, u234, u235, u236, u237, u238, u239, u240, u241, u242, u243, u244, u245, u246, u247, u248, u249, u250, u251, u252, u253, u254, u255, u256, u257, u258, u259, u260, u261, u262, u263, u264, u265, u266, u267, u268, u269, u270, x271, x272, x273, x274, x275, x276, x277, x278, x279, x280, x281, x282, x283, x284, x285, x286, u287, u288, u289, u290, u291, u292, u293, u294, u295, u296, u297, u298, u299, u300, u301, u302, u303, u304, u305, u306, u307, u308, u309, u310, u311, u312, u313, u314, u315, u316, u317, u318, u319, u320, u321, u322, u323, u324, u325, u326, u327, u328, u329, u330, u331, u332], []⟩ w') :
    Code.wp Tryd.prog (piece 10) Q0 ⟨#[u0, u1, u2, u3, u4, u5, u6, .slice (some ⟨gH, 0, none⟩) 8 8, u8, u9, u10, u11, u12, u13, u14, u15, u16, .slice (some ⟨gs, 0, none⟩) 8 cs, u18, u19, u20, u21, u22, .int .i64 0, u24, u25, u26, u27, u28, u29, u30, u31, u32, u33, u34, u35, u36, u37, u38, u39, u40, u41, u42, u43, u44, u45, u46, u47, u48, u49, u50, u51, u52, u53, u54, u55, u56, u57, u58, u59, u60, u61, u62, u63, u64, u65, u66, u67, u68, u69, u70, u71, u72, u73, u74, u75, u76, u77, u78, u79, u80, u81, u82, u83, u84, u85, u86, u87, u88, u89, u90, u91, u92, u93, u94, u95, u96, u97, u98, u99, u100, u101, u102, u103, u104, u105, u106, u107, u108, u109, u110, u111, u112, u113, u114, u115, u116, u117, u118, u119, u120, u121, u122, u123, u124, u125, u126, u127, u128, u129, u130, u131, u132, u133, u134, u135, u136, u137, u138, u139, u140, u141, u142, u143, u144, u145, u146, u147, u148, u149, u150, u151, u152, u153, u154, u155, u156, u157, u158, u159, u160, u161, u162, u163, u164, u165, u166, u167, u168, u169, u170, u171, u172, u173, u174, u175, u176, u177, u178, u179, u180, u181, u182, u183, u184, u185, u186, u187, u188, u189, u190, u191, u192, u193, u194, u195, u196, u197, u198, u199, u200, u201, u202, u203, u204, u205, u206, u207, u208, u209, u210, u211, u212, u213, u214, u215, u216, u217, u218, u219, u220, u221, u222, u223, u224, u225, u226, u227, u228, u229, u230, u231, u232, u233, u234, u235, u236, u237, u238, u239, u240, u241, u242, u243, u244, u245, u246, u247, u248, u249, u250, u251, u252, u253, u254, u255, u256, u257, u258, u259, u260, u261, u262, u263, u264, u265, u266, u267, u268, u269, u270, u271, u272, u273, u274, u275, u276, u277, u278, u279, u280, u281, u282, u283, u284, u285, u286, u287, u288, u289, u290, u291, u292, u293, u294, u295, u296, u297, u298, u299, u300, u301, u302, u303, u304, u305, u306, u307, u308, u309, u310, u311, u312, u313, u314, u315, u316, u317, u318, u319, u320, u321, u322, u323, u324, u325, u326, u327, u328, u329, u330, u331, u332], []⟩ wr := by
  conv => arg 2; whnf
  have HQ := veil hQ
  have hne : gs ≠ gH := by have := hF.o3; omega
  have HNE := veil hne
  clear hQ hne
  go_wp2
  go_loopw [23] (fun v wr => ∃ i : Nat, i ≤ 8 ∧ v = .int .i64 (i : Int) ∧ Pre wr gs 68 8 (hst r) ∧ RF w wr gR gT gH gK N tx (fun j => if j < i then hst (addSt s r) j else hst s j))
    (fun v _ => 8 - (intOf v).toNat)
  case atStart => exact ⟨0, by omega, rfl, hS, hF.congrH fun j _ => (if_neg (by omega)).symm⟩
  case round =>
    obtain ⟨i, hi, rfl, hS, hF⟩ := hrel
    by_cases hlt : i < 8
    · have hd1 : decide ((i : Int) < 8) = true := by simp; omega
      have cs1 := hS.cell hlt
      have ch1 := hF.h.cell hlt
      have fh1 := hF.h.frozen i
      rw [if_neg (by omega)] at ch1
      unfold hst at cs1 ch1
      obtain ⟨x, hx⟩ : ∃ x, x = s.at i := ⟨_, rfl⟩
      obtain ⟨z, hz⟩ : ∃ x, x = r.at i := ⟨_, rfl⟩
      rw [← hx] at ch1
      rw [← hz] at cs1
      have ji : (i : Int) < 8 := by omega
      have wi : IntKind.i64.wrap (i : Int) = (i : Int) := IntWalk.i64_in _ (by omega)
      have sI := ad_mod x z
      have sW := ad_wrap x z
      have HX := veil (And.intro hx hz)
      clear hx hz
      go_wp2
      go_still_tail 11, (by kernel_rfl)
      change wpList _ _ _ _ _ wr.drew
      replace hF := hF.drew
      replace hS := hS.drew
      have cs2 : wr.drew.cell? ⟨gs, i, none⟩ = some (.int .u32 (z : Int)) := cs1
      have ch2 : wr.drew.cell? ⟨gH, i, none⟩ = some (.int .u32 (x : Int)) := ch1
      have fh2 : wr.drew.frozen? ⟨gH, i, none⟩ = false := fh1
      clear cs1 ch1 fh1
      generalize wr.drew = wr at *
      go_wp2
      go_roundw
      case rel =>
        refine ⟨i + 1, by omega, by go_num, hS.far HNE.out _, (hF.setH i _).congrH fun j hj => ?_⟩
        by_cases h : j = i
        · subst h
          rw [if_pos rfl, if_pos (by omega)]
          unfold hst
          rw [addSt_at, ← HX.out.1, ← HX.out.2]
        · rw [if_neg h]
          by_cases h2 : j < i
          · rw [if_pos h2, if_pos (by omega)]
          · rw [if_neg h2, if_neg (by omega)]
      case measure => simp [intOf]; omega
    · have e8 : i = 8 := by omega
      have hd1 : decide ((i : Int) < 8) = false := by simp; omega
      have hF' : RF w wr gR gT gH gK N tx (hst (addSt s r)) := hF.congrH fun j hj => by rw [if_pos (by omega)]
      clear e8 hlt hi hF
      go_wp2
      exact HQ.out _ _ _ _ _ _ _ _ _ _ _ _ _ _ _ _ _ wr hF'
end Go.Proofs.YthgenmoiendakaaDoor


/-
  clapperref03.Sum: the state's bytes (the last loop).
-/
namespace Go.Proofs.YthgenmoiendakaaDoor
open Go.RowKit

set_option maxRecDepth 1000000 in
set_option maxHeartbeats 8000000 in
theorem out_piece {u0 u1 u2 u3 u4 u5 u6 u8 u9 u10 u11 u12 u13 u14 u15 u16 u17 u18 u19 u20 u21 u22 u23 u26 u27 u28 u29 u30 u31 u32 u33 u34 u35 u36 u37 u38 u39 u40 u41 u42 u43 u44 u45 u46 u47 u48 u49 u50 u51 u52 u53 u54 u55 u56 u57 u58 u59 u60 u61 u62 u63 u64 u65 u66 u67 u68 u69 u70 u71 u72 u73 u74 u75 u76 u77 u78 u79 u80 u81 u82 u83 u84 u85 u86 u87 u88 u89 u90 u91 u92 u93 u94 u95 u96 u97 u98 u99 u100 u101 u102 u103 u104 u105 u106 u107 u108 u109 u110 u111 u112 u113 u114 u115 u116 u117 u118 u119 u120 u121 u122 u123 u124 u125 u126 u127 u128 u129 u130 u131 u132 u133 u134 u135 u136 u137 u138 u139 u140 u141 u142 u143 u144 u145 u146 u147 u148 u149 u150 u151 u152 u153 u154 u155 u156 u157 u158 u159 u160 u161 u162 u163 u164 u165 u166 u167 u168 u169 u170 u171 u172 u173 u174 u175 u176 u177 u178 u179 u180 u181 u182 u183 u184 u185 u186 u187 u188 u189 u190 u191 u192 u193 u194 u195 u196 u197 u198 u199 u200 u201 u202 u203 u204 u205 u206 u207 u208 u209 u210 u211 u212 u213 u214 u215 u216 u217 u218 u219 u220 u221 u222 u223 u224 u225 u226 u227 u228 u229 u230 u231 u232 u233 u234 u235 u236 u237 u238 u239 u240 u241 u242 u243 u244 u245 u246 u247 u248 u249 u250 u251 u252 u253 u254 u255 u256 u257 u258 u259 u260 u261 u262 u263 u264 u265 u266 u267 u268 u269 u270 u271 u272 u273 u274 u275 u276 u277 u278 u279 u280 u281 u282 u283 u284 u285 u286 u287 u288 u289 u290 u291 u292 u293 u294 u295 u296 u297 u298 u299 u300 u301 u302 u303 u304 u305 u306 u307 u308 u309 u310 u311 u312 u313 u314 u315 u316 u317 u318 u319 u320 u321 u322 u323 u324 u325 u326 u327 u328 u329 u330 u331 u332 : Value} {w wr : World} {gR gT gH gK gO N : Nat} {tx : Nat → Value} {s : St} {Q0 : Exit → Act → World → Prop} (hs : s.Ok)
    (hF : RF w wr gR gT gH gK N tx (hst s)) (hO : wr.rowIs gO 26 32 (fun _ => .int .u8 0)) (hOK : gK < gO)
    (hQ : ∀ (x25 x287 x288 x289 x290 x291 x292 x293 x294 x295 x296 x297 x298 x299 x300 x301 x302 x303 x304 x305 x306 x307 x308 x309 x310 x311 x312 x313 x314 x315 x316 x317 x318 x319 x320 x321 x322 x323 x324 x325 x326 x327 x328 x329 x330 x331 : Value) (w' : World), RF w w' gR gT gH gK N tx (hst s) → w'.rowIs gO 26 32 (fun p => .int .u8 (dByte s p : Nat)) → Q0 .normal ⟨#[u0, u1, u2, u3, u4, u5, u6, .slice (some ⟨gH, 0, none⟩) 8 8, u8, u9, u10, u11, u12, u13, u14, u15, u16, u17, u18, u19, u20, u21, u22, u23, .pointer (some ⟨gO, 0, none⟩), x25, u26, u27, u28, u29, u30, u31, u32, u33, u34, u35, u36, u37, u38, u39, u40, u41, u42, u43, u44, u45, u46, u47, u48, u49, u50, u51, u52, u53, u54, u55, u56, u57, u58, u59, u60, u61, u62, u63, u64, u65, u66, u67, u68, u69, u70, u71, u72, u73, u74, u75, u76, u77, u78, u79, u80, u81, u82, u83, u84, u85, u86, u87, u88, u89, u90, u91, u92, u93, u94, u95, u96, u97, u98, u99, u100, u101, u102, u103, u104, u105, u106, u107, u108, u109, u110, u111, u112, u113, u114, u115, u116, u117, u118, u119, u120, u121, u122, u123, u124, u125, u126, u127, u128, u129, u130, u131, u132, u133, u134, u135, u136, u137, u138, u139, u140, u141, u142, u143, u144, u145, u146, u147, u148, u149, u150, u151, u152, u153, u154, u155, u156, u157, u158, u159, u160, u161, u162, u163, u164, u165, u166, u167, u168, u169, u170, u171, u172, u173, u174, u175, u176, u177, u178, u179, u180, u181, u182, u183, u184, u185, u186, u187, u188, u189, u190, u191, u192, u193, u194, u195, u196, u197, u198, u199, u200, u201, u202, u203, u204, u205, u206, u207, u208, u209, u210, u211, u212, u213, u214, u215, u216, u217, u218, u219, u220, u221, u222, u223, u224, u225, u226, u227, u228, u229, u230, u231, u232, u233, u234, u235, u236, u237, u238, u239, u240, u241, u242, u243, u244, u245, u246, u247, u248, u249, u250, u251, u252, u253, u254, u255, u256, u257, u258, u259, u260, u261, u262, u263, u264, u265, u266, u267, u268, u269, u270, u271, u272, u273, u274, u275, u276, u277, u278, u279, u280, u281, u282, u283, u284, u285, u286, x287, x288, x289, x290, x291, x292, x293, x294, x295, x296, x297, x298, x299, x300, x301, x302, x303, x304, x305, x306, x307, x308, x309, x310, x311, x312, x313, x314, x315, x316, x317, x318, x319, x320, x321, x322, x323, x324, x325, x326, x327, x328, x329, x330, x331, u332], []⟩ w') :
    Code.wp Tryd.prog (piece 12) Q0 ⟨#[u0, u1, u2, u3, u4, u5, u6, .slice (some ⟨gH, 0, none⟩) 8 8, u8, u9, u10, u11, u12, u13, u14, u15, u16, u17, u18, u19, u20, u21, u22, u23, .pointer (some ⟨gO, 0, none⟩), .int .i64 0, u26, u27, u28, u29, u30, u31, u32, u33, u34, u35, u36, u37, u38, u39, u40, u41, u42, u43, u44, u45, u46, u47, u48, u49, u50, u51, u52, u53, u54, u55, u56, u57, u58, u59, u60, u61, u62, u63, u64, u65, u66, u67, u68, u69, u70, u71, u72, u73, u74, u75, u76, u77, u78, u79, u80, u81, u82, u83, u84, u85, u86, u87, u88, u89, u90, u91, u92, u93, u94, u95, u96, u97, u98, u99, u100, u101, u102, u103, u104, u105, u106, u107, u108, u109, u110, u111, u112, u113, u114, u115, u116, u117, u118, u119, u120, u121, u122, u123, u124, u125, u126, u127, u128, u129, u130, u131, u132, u133, u134, u135, u136, u137, u138, u139, u140, u141, u142, u143, u144, u145, u146, u147, u148, u149, u150, u151, u152, u153, u154, u155, u156, u157, u158, u159, u160, u161, u162, u163, u164, u165, u166, u167, u168, u169, u170, u171, u172, u173, u174, u175, u176, u177, u178, u179, u180, u181, u182, u183, u184, u185, u186, u187, u188, u189, u190, u191, u192, u193, u194, u195, u196, u197, u198, u199, u200, u201, u202, u203, u204, u205, u206, u207, u208, u209, u210, u211, u212, u213, u214, u215, u216, u217, u218, u219, u220, u221, u222, u223, u224, u225, u226, u227, u228, u229, u230, u231, u232, u233, u234, u235, u236, u237, u238, u239, u240, u241, u242, u243, u244, u245, u246, u247, u248, u249, u250, u251, u252, u253, u254, u255, u256, u257, u258, u259, u260, u261, u262, u263, u264, u265, u266, u267, u268, u269, u270, u271, u272, u273, u274, u275, u276, u277, u278, u279, u280, u281, u282, u283, u284, u285, u286, u287, u288, u289, u290, u291, u292, u293, u294, u295, u296, u297, u298, u299, u300, u301, u302, u303, u304, u305, u306, u307, u308, u309, u310, u311, u312, u313, u314, u315, u316, u317, u318, u319, u320, u321, u322, u323, u324, u325, u326, u327, u328, u329, u330, u331, u332], []⟩ wr := by
  conv => arg 2; whnf
  have HQ := veil hQ
  have HS := veil hs
  clear hQ hs
  go_wp2
  go_loopw [25] (fun v wr => ∃ i : Nat, i ≤ 8 ∧ v = .int .i64 (i : Int) ∧ wr.rowIs gO 26 32 (fun p => .int .u8 ((if p < 4 * i then dByte s p else 0 : Nat) : Int)) ∧ RF w wr gR gT gH gK N tx (hst s))
    (fun v _ => 8 - (intOf v).toNat)
  case atStart => exact ⟨0, by omega, rfl, hO, hF⟩
  case round =>
    obtain ⟨i, hi, rfl, hO, hF⟩ := hrel
    by_cases hlt : i < 8
    · have hd1 : decide ((i : Int) < 8) = true := by simp; omega
      have ch := hF.h.cell hlt
      unfold hst at ch
      obtain ⟨x, hx⟩ : ∃ x, x = s.at i := ⟨_, rfl⟩
      have hxl : x < 2 ^ 32 := by rw [hx]; exact St.at_lt HS.out i
      rw [← hx] at ch
      have ji : (i : Int) < 8 := by omega
      obtain ⟨p, hp⟩ : ∃ p, p = 4 * i := ⟨_, rfl⟩
      have e0 : 4 * (i : Int) = (p : Int) := by omega
      have e1 : (p : Int) + 1 = ((p + 1 : Nat) : Int) := by omega
      have e2 : (p : Int) + 2 = ((p + 2 : Nat) : Int) := by omega
      have e3 : (p : Int) + 3 = ((p + 3 : Nat) : Int) := by omega
      have hp3 : p + 3 < 32 := by omega
      have c0 := hO.cell (show p < 32 by omega)
      have c1 := hO.cell (show p + 1 < 32 by omega)
      have c2 := hO.cell (show p + 2 < 32 by omega)
      have c3 := hO.cell (show p + 3 < 32 by omega)
      rw [if_neg (by omega)] at c0 c1 c2 c3
      have f0 := hO.frozen p
      have f1 := hO.frozen (p + 1)
      have f2 := hO.frozen (p + 2)
      have f3 := hO.frozen (p + 3)
      have HX := veil (And.intro hx hp)
      obtain ⟨b0, hb0⟩ : ∃ b, b = x / 16777216 := ⟨_, rfl⟩
      obtain ⟨b1, hb1⟩ : ∃ b, b = x / 65536 % 256 := ⟨_, rfl⟩
      obtain ⟨b2, hb2⟩ : ∃ b, b = x / 256 % 256 := ⟨_, rfl⟩
      obtain ⟨b3, hb3⟩ : ∃ b, b = x % 256 := ⟨_, rfl⟩
      have l0 : b0 < 256 := by omega
      have q0 : (x : Int) / 16777216 = (b0 : Int) := by omega
      have q1 : (x : Int) / 65536 % 256 = (b1 : Int) := by omega
      have q2 : (x : Int) / 256 % 256 = (b2 : Int) := by omega
      have q3 : (x : Int) % 256 = (b3 : Int) := by omega
      have r0 : (b0 : Int) % 256 = (b0 : Int) := by omega
      have HBB := veil (show b0 = x / 256 ^ 3 % 256 ∧ b1 = x / 256 ^ 2 % 256 ∧ b2 = x / 256 ^ 1 % 256 ∧ b3 = x / 256 ^ 0 % 256 by simp only [Nat.reducePow, Nat.div_one]; omega)
      have x0 : 0 ≤ (x : Int) := by omega
      have x1 : (x : Int) ≤ 4294967295 := by omega
      have hgH : gH ≠ gO := by have := hF.o3; omega
      clear hx hp hb0 hb1 hb2 hb3
      generalize p + 1 = p1 at *
      generalize p + 2 = p2 at *
      generalize p + 3 = p3 at *
      go_wp2
      go_roundw
      case rel =>
        refine ⟨i + 1, by omega, by go_num, ((((hO.set p _).set p1 _).set p2 _).set p3 _).congr fun j hj => ?_, (((hF.far hOK _).far hOK _).far hOK _).far hOK _⟩
        obtain ⟨hx, hp⟩ := HX.out
        obtain ⟨g0, g1, g2, g3⟩ := HBB.out
        by_cases h3 : j = p3
        · rw [if_pos h3, if_pos (by omega)]; unfold dByte
          rw [show j / 4 = i by omega, show 3 - j % 4 = 0 by omega, ← hx, g3]
        · rw [if_neg h3]
          by_cases h2 : j = p2
          · rw [if_pos h2, if_pos (by omega)]; unfold dByte
            rw [show j / 4 = i by omega, show 3 - j % 4 = 1 by omega, ← hx, g2]
          · rw [if_neg h2]
            by_cases h1 : j = p1
            · rw [if_pos h1, if_pos (by omega)]; unfold dByte
              rw [show j / 4 = i by omega, show 3 - j % 4 = 2 by omega, ← hx, g1]
            · rw [if_neg h1]
              by_cases h0 : j = p
              · rw [if_pos h0, if_pos (by omega)]; unfold dByte
                rw [show j / 4 = i by omega, show 3 - j % 4 = 3 by omega, ← hx, g0]
              · rw [if_neg h0]
                by_cases hl : j < 4 * i
                · rw [if_pos hl, if_pos (by omega)]
                · rw [if_neg hl, if_neg (by omega)]
      case measure => simp [intOf]; omega
    · have e8 : i = 8 := by omega
      have hd1 : decide ((i : Int) < 8) = false := by simp; omega
      have hO' : wr.rowIs gO 26 32 (fun p => .int .u8 (dByte s p : Nat)) := hO.congr fun j hj => by rw [if_pos (by omega)]
      clear e8 hlt hi hO
      go_wp2
      exact HQ.out _ _ _ _ _ _ _ _ _ _ _ _ _ _ _ _ _ _ _ _ _ _ _ _ _ _ _ _ _ _ _ _ _ _ _ _ _ _ _ _ _ _ _ _ _ _ wr hF hO'
end Go.Proofs.YthgenmoiendakaaDoor


/-
  clapperref03.Sum: the document's sum of any bytes.
-/
namespace Go.Proofs.YthgenmoiendakaaDoor
open Go.RowKit

set_option maxRecDepth 100000 in
set_option maxHeartbeats 8000000 in
theorem rsum_calls (A : Option Addr) (n c : Nat) (y : Nat → Nat) (hy : ∀ j, y j < 256) (hn : n ≤ 1048576) (w : World) (hS : Src w A n y w.heap.size) :
    Calls Tryd.prog 45 #[.slice A n c] w fun e w' => e = .returned (.agg (dgst y n)) ∧ Below w.heap.size w w' := by
  obtain ⟨i8, hi8, hz0, hz1, hz2⟩ := info_parts infoB3
  have HY := veil hy
  clear hy
  go_enter Tryd.func45, Tryd.ntmps45
  go_upto_region 1 with (fail)
  rw [zeros32]
  have hR : (w.alloc (.cells (arrOf 32 (fun _ => .int .u8 0)) 26)).rowIs w.heap.size 26 32 (fun _ => .int .u8 0) := row_made w 32 26 _ rfl
  have hB : Below w.heap.size w (w.alloc (.cells (arrOf 32 (fun _ => .int .u8 0)) 26)) := (Below.refl _ _).alloc (Nat.le_refl _) _
  have hS1 := (hS.at (Nat.le_refl _)).below hB
  have hz : (w.alloc (.cells (arrOf 32 (fun _ => .int .u8 0)) 26)).heap.size = w.heap.size + 1 := by simp
  generalize w.alloc (.cells (arrOf 32 (fun _ => .int .u8 0)) 26) = w1 at *
  generalize hgr : w.heap.size = gR at *
  have HGR := veil hgr
  clear hgr hS
  have hO : Own (w1.alloc (.cells #[] 5)) (gR + 1) 5 (.slice (some ⟨w1.heap.size, 0, none⟩) 0 0) 0 (fun _ => .int .u8 0) := Own.made w1 (cs := #[]) (by omega) (by decide) (fun i hi => by simp at hi)
  rw [hz] at hO
  have hS2 := hS1.below ((Below.refl w1.heap.size w1).alloc (Nat.le_refl _) (.cells #[] 5))
  have HA := veil (And.intro hO (src_from hS2))
  have HI := veil (And.intro hi8 (And.intro hz0 (And.intro hz1 hz2)))
  clear hO hS2 hi8 hz0 hz1 hz2
  go_upto_region 2 with ((with_reducible refine at_slot 28 ?_); refine wpList_append_from _ rfl _ _ 40 rfl (gR + 1) 5 i8 (.int .u8 0) 1 Tryd.underlying40 HI.out.1 HI.out.2.1 HI.out.2.2.1 HI.out.2.2.2 rfl (.slice (some ⟨gR + 1, 0, none⟩) 0 0) 0 _ rfl HA.out.1 A n c rfl _ HA.out.2 (fun _ => rfl) (by unfold maxLen; omega) (by omega) (by simp [hz]) ?_; intro v3 w2 hO2 hg2 hat2)
  rw [Nat.zero_add] at hO2
  replace hO2 : Own w2 (gR + 1) 5 v3 n (txv y n) := hO2.congr fun j hj => by rw [if_neg (by omega), Nat.sub_zero, txv_lo hj]
  have hb1 : Below gR w1 (w1.alloc (.cells #[] 5)) := (Below.refl _ _).alloc (by omega) _
  have hr1 := hR.alloc (.cells #[] 5)
  replace hR := row_grown hr1 hg2 (by simp [Value.ownBlock])
  replace hB := hB.trans (hb1.grown hg2 (by simp; omega) (fun k e => by simp [Value.ownBlock] at e; omega))
  have hz2 : gR < w2.heap.size := hR.lt
  clear hg2 hat2 hb1 hr1 hz HA hS1
  have HA := veil (And.intro (hO2.alloc (.cells #[.int .u8 128] 5)) (from_new w2 (.int .u8 128) 5))
  go_upto_region 3 with ((with_reducible refine at_slot 31 ?_); refine wpList_append_from _ rfl _ _ 40 rfl (gR + 1) 5 i8 (.int .u8 0) 1 Tryd.underlying40 HI.out.1 HI.out.2.1 HI.out.2.2.1 HI.out.2.2.2 rfl v3 n _ rfl HA.out.1 (some ⟨w2.heap.size, 0, none⟩) 1 1 rfl _ HA.out.2 (fun _ => rfl) (by unfold maxLen; omega) (by omega) (by simp; omega) ?_; intro v4 w3 hO3 hg3 hat3)
  obtain ⟨hR, hB, hz3⟩ := keep_step hR hB hg3 (fun k e => (hO2.lt e).1)
  replace hO3 : Own w3 (gR + 1) 5 v4 (n + 1) (txv y n) := hO3.congr fun j hj => by
    by_cases h : j < n
    · rw [if_pos h]
    · rw [if_neg h, show j = n by omega, txv_at]
  obtain ⟨N, hN⟩ : ∃ N, N = 64 * nBlocks n := ⟨_, rfl⟩
  have hN1 : n + 9 ≤ N ∧ N ≤ n + 72 ∧ N % 64 = 0 := by rw [hN]; unfold nBlocks; omega
  have HN := veil hN
  obtain ⟨g3, c3, rfl, _, hg3R, _⟩ := hO3.pre (by omega)
  clear hg3 hat3 hO2 HA hz2 hN
  go_loopw [3] (fun v wr => ∃ m g c : Nat, n + 1 ≤ m ∧ m ≤ N - 8 ∧ v = .slice (some ⟨g, 0, none⟩) m c ∧ Own wr (gR + 1) 5 (.slice (some ⟨g, 0, none⟩) m c) m (txv y n) ∧ wr.rowIs gR 26 32 (fun _ => .int .u8 0) ∧ Below gR w wr)
    (fun v _ => N - lenOf v)
  case atStart => exact ⟨n + 1, g3, c3, by omega, by omega, rfl, hO3, hR, hB⟩
  case round =>
    obtain ⟨m, g, c, hm1, hm2, rfl, hO, hR, hB⟩ := hrel
    by_cases hlt : m < N - 8
    · have h56 : ¬ ((m : Int) % 64 = 56) := by omega
      have HA := veil (And.intro (hO.alloc (.cells #[.int .u8 0] 5)) (from_new wr (.int .u8 0) 5))
      have hzr := hR.lt
      go_wp2_with ((with_reducible refine at_slot 38 ?_); refine wpList_append_from _ rfl _ _ 40 rfl (gR + 1) 5 i8 (.int .u8 0) 1 Tryd.underlying40 HI.out.1 HI.out.2.1 HI.out.2.2.1 HI.out.2.2.2 rfl (.slice (some ⟨g, 0, none⟩) m c) m _ rfl HA.out.1 (some ⟨wr.heap.size, 0, none⟩) 1 1 rfl _ HA.out.2 (fun _ => rfl) (by unfold maxLen; omega) (by omega) (by simp; omega) ?_; intro v4 w3 hO3 hg3 hat3)
      obtain ⟨hR, hB, hz3⟩ := keep_step hR hB hg3 (fun k e => (hO.lt e).1)
      replace hO3 : Own w3 (gR + 1) 5 v4 (m + 1) (txv y n) := hO3.congr fun j hj => by
        by_cases h : j < m
        · rw [if_pos h]
        · rw [if_neg h, txv_mid (by omega) (by have := HN.out; omega)]
      obtain ⟨g4, c4, rfl, _, _, _⟩ := hO3.pre (by omega)
      clear hg3 hat3 hO HA
      go_roundw
      case rel => exact ⟨m + 1, g4, c4, by omega, by omega, rfl, hO3, hR, hB⟩
      case measure => simp [lenOf]; omega
    · have em : m = N - 8 := by omega
      have h56 : (m : Int) % 64 = 56 := by omega
      have HEM := veil em
      have e8 : 8 * (n : Int) = ((8 * n : Nat) : Int) := by omega
      obtain ⟨X0, hX0⟩ : ∃ X0, X0 = 8 * n := ⟨_, rfl⟩
      rw [← hX0] at e8
      have hX0l : X0 ≤ 8388608 := by omega
      have HX0 := veil hX0
      clear hlt em hX0
      go_upto_region 8 with (fail)
      have hzr := hR.lt
      have hgr := (hO.lt (k := g) rfl)
      clear h56 e8
      go_loopw [4, 5, 6] (fun v4 v5 v6 wr => ∃ (i X : Nat) (A : Option Addr) (c5 : Nat), i ≤ 8 ∧ X ≤ 8388608 ∧ Hid (X = 8 * n / 256 ^ i) ∧ v6 = .int .i64 (i : Int) ∧ v4 = .int .u64 (X : Int) ∧ v5 = .slice A i c5 ∧ Src wr A i (fun j => 8 * n / 256 ^ (i - 1 - j) % 256) gR ∧
          Own wr (gR + 1) 5 (.slice (some ⟨g, 0, none⟩) m c) m (txv y n) ∧ wr.rowIs gR 26 32 (fun _ => .int .u8 0) ∧ Below gR w wr)
        (fun _ _ v6 _ => 8 - (intOf v6).toNat)
      case atStart => exact ⟨0, X0, none, 0, by omega, hX0l, by rw [HX0.out, Nat.pow_zero, Nat.div_one]; rfl, rfl, rfl, rfl, .inl rfl, hO, hR, hB⟩
      case round =>
        obtain ⟨i, X, A, c5, hi, hXl, hX, rfl, rfl, rfl, hS, hO, hR, hB⟩ := hrel
        by_cases hlt : i < 8
        · obtain ⟨x, hx⟩ : ∃ x, x = X % 256 := ⟨_, rfl⟩
          have hxi : (X : Int) % 256 = (x : Int) := by omega
          have hx256 : x < 256 := by omega
          obtain ⟨X', hX'⟩ : ∃ X', X' = X / 256 := ⟨_, rfl⟩
          have hXi : (X : Int) / 256 = (X' : Int) := by omega
          have hXl' : X' ≤ 8388608 := by omega
          have hzr := hR.lt
          have hgr := (hO.lt (k := g) rfl)
          have HXX := veil (And.intro hx hX')
          have hOn := own_one wr 5 (.int .u8 (x : Int))
          have hSn := hS.below ((Below.refl wr.heap.size wr).alloc (Nat.le_refl _) (.cells #[.int .u8 (x : Int)] 5))
          have HA := veil (And.intro hOn (src_from hSn))
          clear hx hX' hOn hSn hS
          go_wp2_with ((with_reducible refine at_slot 52 ?_); refine wpList_append_from _ rfl _ _ 40 rfl wr.heap.size 5 i8 (.int .u8 0) 1 Tryd.underlying40 HI.out.1 HI.out.2.1 HI.out.2.2.1 HI.out.2.2.2 rfl (.slice (some ⟨wr.heap.size, 0, none⟩) 1 1) 1 _ rfl HA.out.1 A i c5 rfl _ HA.out.2 (fun _ => rfl) (by unfold maxLen; omega) (by omega) (by simp) ?_; intro v4 w3 hO3 hg3 hat3)
          obtain ⟨hR3, hB3, hz3⟩ := keep_step hR hB hg3 (fun k e => by simp [Value.ownBlock] at e; omega)
          have hOk := (hO.alloc (.cells #[.int .u8 (x : Int)] 5)).kept hg3 (.inr (by simp [Value.ownBlock]; omega))
          obtain ⟨g4, c4, rfl, _, hg4, hp4⟩ := hO3.pre (by omega)
          clear hg3 hat3 hO HA hR hB
          go_roundw
          case rel =>
            refine ⟨i + 1, X', some ⟨g4, 0, none⟩, c4, by omega, hXl', ?_, by go_num, rfl, by rw [Nat.add_comm 1 i], ?_, hOk, hR3, hB3⟩
            · show X' = _
              rw [HXX.out.2, hX.out, Nat.pow_succ, Nat.div_div_eq_div_mul]
            · refine .inr ⟨g4, 0, rfl, hp4.lt, by omega, fun j hj => ?_⟩
              rw [Nat.zero_add, hp4.cell (by omega)]
              dsimp only
              by_cases h : j < 1
              · rw [if_pos h, show i + 1 - 1 - j = i by omega, HXX.out.1, hX.out]
              · rw [if_neg h, show i + 1 - 1 - j = i - 1 - (j - 1) by omega]
          case measure => simp [intOf]; omega
        · have e8 : i = 8 := by omega
          have HE8 := veil e8
          have hif : decide ((i : Int) < 8) = false := by simp; omega
          have hzr := hR.lt
          have HA := veil (And.intro hO (src_from hS))
          have hgr := hO.lt (k := g) rfl
          have h64 : m + i = N := by have := HEM.out; omega
          clear hS e8 hlt hi
          go_upto_region 13 with ((with_reducible refine at_slot 57 ?_); refine wpList_append_from _ rfl _ _ 40 rfl (gR + 1) 5 i8 (.int .u8 0) 1 Tryd.underlying40 HI.out.1 HI.out.2.1 HI.out.2.2.1 HI.out.2.2.2 rfl (.slice (some ⟨g, 0, none⟩) m c) m _ rfl HA.out.1 A i c5 rfl _ HA.out.2 (fun _ => rfl) (by unfold maxLen; omega) (by omega) (by omega) ?_; intro v4 w3 hO3 hg3 hat3)
          have hTn : Own w3 (gR + 1) 5 v4 N (txv y n) := by
            rw [← h64]
            refine hO3.congr fun j hj => ?_
            by_cases h : j < m
            · rw [if_pos h]
            · have he := HEM.out; have hnn := HN.out; have h8 := HE8.out
              rw [if_neg h, txv_hi (by omega) (by omega), show i - 1 - (j - m) = 64 * nBlocks n - 1 - j by omega]
          obtain ⟨gT, cT, rfl, hcT, hgT, hpT⟩ := hTn.pre (by omega)
          have hR3 := row_grown hR hg3 (by simp [Value.ownBlock]; omega)
          have hB3 := hB.grown hg3 (by omega) (fun k e => by simp [Value.ownBlock] at e; omega)
          have hgT2 := hpT.lt
          have hz3 := hR3.lt
          clear hO3 hg3 hat3 HA hO hR hB hTn
          have hH : (w3.alloc (.cells #[.int .u32 1779033703, .int .u32 3144134277, .int .u32 1013904242, .int .u32 2773480762, .int .u32 1359893119, .int .u32 2600822924, .int .u32 528734635, .int .u32 1541459225] 68)).rowIs w3.heap.size 68 8 (fun j => .int .u32 ((blocksN (padded y n) 0).at j : Nat)) := row_made w3 8 68 (fun j => .int .u32 ((blocksN (padded y n) 0).at j : Nat)) rfl
          have hp4 := hpT.alloc (.cells #[.int .u32 1779033703, .int .u32 3144134277, .int .u32 1013904242, .int .u32 2773480762, .int .u32 1359893119, .int .u32 2600822924, .int .u32 528734635, .int .u32 1541459225] 68)
          have hR4 := hR3.alloc (.cells #[.int .u32 1779033703, .int .u32 3144134277, .int .u32 1013904242, .int .u32 2773480762, .int .u32 1359893119, .int .u32 2600822924, .int .u32 528734635, .int .u32 1541459225] 68)
          have hB4 := hB3.alloc (by omega) (.cells #[.int .u32 1779033703, .int .u32 3144134277, .int .u32 1013904242, .int .u32 2773480762, .int .u32 1359893119, .int .u32 2600822924, .int .u32 528734635, .int .u32 1541459225] 68)
          clear hpT hR3 hB3
          go_wp2_with fail
          generalize w3.alloc (.cells #[.int .u32 1779033703, .int .u32 3144134277, .int .u32 1013904242, .int .u32 2773480762, .int .u32 1359893119, .int .u32 2600822924, .int .u32 528734635, .int .u32 1541459225] 68) = w4 at *
          refine (constants_calls w4).mono ?_
          rintro e w5 ⟨rfl, rfl⟩
          have hF : RF w (w4.alloc (.cells kCells 68)) gR gT w3.heap.size w4.heap.size N (txv y n) (hst (blocksN (padded y n) 0)) :=
            ⟨hp4.alloc _, hH.alloc _, kRow rfl, hR4.alloc _, hB4.alloc (by have := hR4.lt; omega) _, by omega, hgT2, hH.lt⟩
          generalize w4.alloc (.cells kCells 68) = w5 at *
          generalize w4.heap.size = gK at *
          generalize w3.heap.size = gH at *
          clear hp4 hH hR4 hB4
          go_upto_region 16 with (fail)
          obtain ⟨i32, hi32, hw0, hw1, hw2⟩ := info_parts infoU32
          have HI4 := veil (And.intro hi32 (And.intro hw0 (And.intro hw1 hw2)))
          have hNmax : N ≤ 2097152 := by omega
          clear hi32 hw0 hw1 hw2 HI
          go_loopw [9] (fun v wr => ∃ q a : Nat, Hid (a = 64 * q) ∧ a ≤ N ∧ v = .int .i64 (a : Int) ∧ RF w wr gR gT gH gK N (txv y n) (hst (blocksN (padded y n) q)))
            (fun v _ => N - (intOf v).toNat)
          case atStart => exact ⟨0, 0, rfl, by omega, rfl, hF⟩
          case round =>
            obtain ⟨q, a, HQ, haN, rfl, hF⟩ := hrel
            by_cases hlt : a < N
            · have haN2 : a + 64 ≤ N := by have := HQ.out; omega
              have hd1 : decide ((a : Int) < (N : Int)) = true := by simp; omega
              obtain ⟨st, hst0⟩ : ∃ st, st = blocksN (padded y n) q := ⟨_, rfl⟩
              rw [← hst0] at hF
              have HOK := veil (show st.Ok by rw [hst0]; exact blocksN_ok _ _)
              have HST := veil hst0
              clear hst0
              go_upto_block 6 with (fail)
              refine sched_piece HY.out HQ.out haN2 hNmax hF ?_
              intros
              rename_i gW cW w6 hF6 hW6 hgW6
              have hO6 : Own (w6.alloc (.cells #[] 68)) (gK + 1) 68 (.slice (some ⟨w6.heap.size, 0, none⟩) 0 0) 0 (fun _ => .int .u32 0) := Own.made w6 (cs := #[]) (by have := hF6.lt; omega) (by decide) (fun i hi => by simp at hi)
              have hF6a := hF6.alloc (.cells #[] 68)
              have hFr : From (w6.alloc (.cells #[] 68)) (some ⟨gH, 0, none⟩) 8 (hst st) := .inr ⟨_, rfl, fun j hj => by rw [Addr.add_mid, Nat.zero_add]; exact hF6a.h.cell hj⟩
              have hW6a := hW6.alloc (.cells #[] 68)
              have hz6 := hF6.lt
              have hW6l := hW6.lt
              have HA6 := veil (And.intro hO6 (And.intro hFr (show gK + 1 ≤ (w6.alloc (.cells #[] 68)).heap.size by show gK + 1 ≤ (w6.heap.push _).size; simp; omega)))
              clear hO6 hFr hF6 hW6
              go_upto_block 8 with ((with_reducible refine at_slot 154 ?_); refine wpList_append_from _ rfl _ _ 97 rfl (gK + 1) 68 i32 (.int .u32 0) 4 Tryd.underlying97 HI4.out.1 HI4.out.2.1 HI4.out.2.2.1 HI4.out.2.2.2 rfl (.slice (some ⟨w6.heap.size, 0, none⟩) 0 0) 0 _ rfl HA6.out.1 (some ⟨gH, 0, none⟩) 8 8 rfl (hst st) HA6.out.2.1 (fun _ => rfl) (by decide) (by decide) HA6.out.2.2 ?_; intro v7 w7 hO7 hg7 hat7; obtain ⟨gs, cs, rfl, hcs7, hgs7, hS7⟩ := hO7.pre (by decide))
              have hF7 := hF6a.grown hg7 (fun k e => by simp [Value.ownBlock] at e; omega)
              have hW7 : Pre w7 gW 68 64 (fun j => .int .u32 (wt (mOf y n q) j : Nat)) := hW6a.of_block (hg7.block gW hW6a.lt (by simp [Value.ownBlock]; omega))
              have hS7' : Pre w7 gs 68 8 (hst st) := hS7.congr fun j _ => by rw [if_neg (by omega), Nat.sub_zero]
              clear hO7 hg7 hat7 hS7 HA6 hF6a hW6a
              refine rounds_piece (m := mOf y n q) HOK.out (mOf_lt HY.out n q) hF7 hW7 hS7' (by omega) (by omega) ?_
              intros
              rename_i gs' cs' w8 hF8 hS8 hs8 hc8
              clear hF7 hW7 hS7'
              go_upto_block 10 with (fail)
              refine add_piece hF8 hS8 hs8 ?_
              intros
              rename_i w9 hF9
              clear hF8 hS8
              go_wp2
              go_roundw
              case rel =>
                refine ⟨q + 1, a + 64, ?_, by omega, by go_num, ?_⟩
                · have := HQ.out
                  show a + 64 = 64 * (q + 1)
                  omega
                · have e : addSt st (roundsN (mOf y n q) st 64) = blocksN (padded y n) (q + 1) := by rw [HST.out]; rfl
                  rw [← e]; exact hF9
              case measure => simp [intOf]; omega
            · have ea : a = N := by omega
              have hd1 : decide ((a : Int) < (N : Int)) = false := by simp; omega
              have hq : q = nBlocks n := by have h1 := HQ.out; have h2 := HN.out; omega
              have hF : RF w wr gR gT gH gK N (txv y n) (hst (shaSt y n)) := by
                have e : shaSt y n = blocksN (padded y n) q := by rw [hq]; rfl
                rw [e]; exact hF
              have HOK := veil (show (shaSt y n).Ok from blocksN_ok _ _)
              obtain ⟨sh, hsh⟩ : ∃ sh, sh = shaSt y n := ⟨_, rfl⟩
              rw [← hsh] at hF HOK
              have HSH := veil hsh
              have hd2 : decide (a < N) = false := by simp; omega
              clear ea haN hq hsh
              go_upto_region 44 with (fail)
              rw [zeros32]
              have hO := row_made wr 32 26 (fun _ => .int .u8 0) rfl
              have hF1 := hF.alloc (.cells (arrOf 32 (fun _ => .int .u8 0)) 26)
              have hzz := hF.lt
              generalize wr.alloc (.cells (arrOf 32 (fun _ => .int .u8 0)) 26) = wA at *
              generalize wr.heap.size = gO at *
              clear hF
              go_upto_block 12 with (fail)
              refine out_piece HOK.out hF1 hO hzz ?_
              intros
              rename_i wB hFB hOB
              have HA := veil (blkOf hOB)
              have HN2 := veil (blkOf hFB.r)
              have hBB := hFB.b
              obtain ⟨D, hD⟩ : ∃ D, D = arrOf 32 (fun p => .int .u8 (dByte sh p : Nat)) := ⟨_, rfl⟩
              rw [← hD] at HA
              have hs : D.size = 32 := by rw [hD, arrOf_size]
              have h1 : D.all (·.oneCell') = true := by rw [hD]; exact arrOf_one fun _ _ => rfl
              have HZ := veil (And.intro hs (And.intro h1 (show (Tryd.prog.info? 26).map (·.size) = some D.size by rw [hs]; exact infoD)))
              have HD := veil (show D = dgst y n by rw [hD, HSH.out]; rfl)
              clear hs h1 hD hOB hFB hF1 hO
              go_wp2_with (first
                | ((with_reducible refine at_slot 332 ?_); refine wpList_load_row rfl 26 _ rfl gO rfl 26 D (0, 0) _ HA.out Tryd.underlying26 rfl HZ.out.2.2 ?_)
                | ((with_reducible refine at_none ?_); refine wpList_store_row rfl 26 _ _ rfl gR D rfl rfl 26 _ HN2.out HZ.out.2.2 (by rw [HZ.out.1, arrOf_size]) HZ.out.2.1 ?_))
              exact bodyPost_ret (results_cell_row rfl _ _ gR 26 D (0, 0) _ rfl (setRow_heap wB gR _ D 26 (0, 0) HN2.out) Tryd.underlying26 rfl HZ.out.2.2) rfl ⟨by rw [HD.out], by rw [HGR.out]; exact below_setRow hBB (Nat.le_refl _) _⟩
end Go.Proofs.YthgenmoiendakaaDoor
