/-
  clapperref03.Sum: what the rounds left goes to the state (the third inner loop).
-/
import Derived.Test.YtmgogcoafhompaaDoorSSched
import Derived.Deep.RegionLaw
namespace Go.Proofs.YtmgogcoafhompaaDoor
open Go.RowKit

set_option maxRecDepth 1000000 in
set_option maxHeartbeats 8000000 in
theorem add_piece {u0 u1 u2 u3 u4 u5 u6 u8 u9 u10 u11 u12 u13 u14 u15 u16 u18 u19 u20 u21 u22 u24 u25 u26 u27 u28 u29 u30 u31 u32 u33 u34 u35 u36 u37 u38 u39 u40 u41 u42 u43 u44 u45 u46 u47 u48 u49 u50 u51 u52 u53 u54 u55 u56 u57 u58 u59 u60 u61 u62 u63 u64 u65 u66 u67 u68 u69 u70 u71 u72 u73 u74 u75 u76 u77 u78 u79 u80 u81 u82 u83 u84 u85 u86 u87 u88 u89 u90 u91 u92 u93 u94 u95 u96 u97 u98 u99 u100 u101 u102 u103 u104 u105 u106 u107 u108 u109 u110 u111 u112 u113 u114 u115 u116 u117 u118 u119 u120 u121 u122 u123 u124 u125 u126 u127 u128 u129 u130 u131 u132 u133 u134 u135 u136 u137 u138 u139 u140 u141 u142 u143 u144 u145 u146 u147 u148 u149 u150 u151 u152 u153 u154 u155 u156 u157 u158 u159 u160 u161 u162 u163 u164 u165 u166 u167 u168 u169 u170 u171 u172 u173 u174 u175 u176 u177 u178 u179 u180 u181 u182 u183 u184 u185 u186 u187 u188 u189 u190 u191 u192 u193 u194 u195 u196 u197 u198 u199 u200 u201 u202 u203 u204 u205 u206 u207 u208 u209 u210 u211 u212 u213 u214 u215 u216 u217 u218 u219 u220 u221 u222 u223 u224 u225 u226 u227 u228 u229 u230 u231 u232 u233 u234 u235 u236 u237 u238 u239 u240 u241 u242 u243 u244 u245 u246 u247 u248 u249 u250 u251 u252 u253 u254 u255 u256 u257 u258 u259 u260 u261 u262 u263 u264 u265 u266 u267 u268 u269 u270 u271 u272 u273 u274 u275 u276 u277 u278 u279 u280 u281 u282 u283 u284 u285 u286 u287 u288 u289 u290 u291 u292 u293 u294 u295 u296 u297 u298 u299 u300 u301 u302 u303 u304 u305 u306 u307 u308 u309 u310 u311 u312 u313 u314 u315 u316 u317 u318 u319 u320 u321 u322 u323 u324 u325 u326 u327 u328 u329 u330 u331 u332 : Value} {w wr : World} {gR gT gH gK gs N cs : Nat} {tx : Nat → Value} {s r : St} {Q0 : Exit → Act → World → Prop}
    (hF : RF w wr gR gT gH gK N tx (hst s)) (hS : Pre wr gs 42 8 (hst r)) (hsK : gK < gs)
    (hQ : ∀ (x23 x271 x272 x273 x274 x275 x276 x277 x278 x279 x280 x281 x282 x283 x284 x285 x286 : Value) (w' : World), RF w w' gR gT gH gK N tx (hst (addSt s r)) → Q0 .normal ⟨#[u0, u1, u2, u3, u4, u5, u6, .slice (some ⟨gH, 0, none⟩) 8 8, u8, u9, u10, u11, u12, u13, u14, u15, u16, .slice (some ⟨gs, 0, none⟩) 8 cs, u18, u19, u20, u21, u22, x23, u24, u25, u26, u27, u28, u29, u30, u31, u32, u33, u34, u35, u36, u37, u38, u39, u40, u41, u42, u43, u44, u45, u46, u47, u48, u49, u50, u51, u52, u53, u54, u55, u56, u57, u58, u59, u60, u61, u62, u63, u64, u65, u66, u67, u68, u69, u70, u71, u72, u73, u74, u75, u76, u77, u78, u79, u80, u81, u82, u83, u84, u85, u86, u87, u88, u89, u90, u91, u92, u93, u94, u95, u96, u97, u98, u99, u100, u101, u102, u103, u104, u105, u106, u107, u108, u109, u110, u111, u112, u113, u114, u115, u116, u117, u118, u119, u120, u121, u122, u123, u124, u125, u126, u127, u128, u129, u130, u131, u132, u133, u134, u135, u136, u137, u138, u139, u140, u141, u142, u143, u144, u145, u146, u147, u148, u149, u150, u151, u152, u153, u154, u155, u156, u157, u158, u159, u160, u161, u162, u163, u164, u165, u166, u167, u168, u169, u170, u171, u172, u173, u174, u175, u176, u177, u178, u179, u180, u181, u182, u183, u184, u185, u186, u187, u188, u189, u190, u191, u192, u193, u194, u195, u196, u197, u198, u199, u200, u201, u202, u203, u204, u205, u206, u207, u208, u209, u210, u211, u212, u213, u214, u215, u216, u217, u218, u219, u220, u221, u222, u223, u224, u225, u226, u227, u228, u229, u230, u231, u232, u233, u234, u235, u236, u237, u238, u239, u240, u241, u242, u243, u244, u245, u246, u247, u248, u249, u250, u251, u252, u253, u254, u255, u256, u257, u258, u259, u260, u261, u262, u263, u264, u265, u266, u267, u268, u269, u270, x271, x272, x273, x274, x275, x276, x277, x278, x279, x280, x281, x282, x283, x284, x285, x286, u287, u288, u289, u290, u291, u292, u293, u294, u295, u296, u297, u298, u299, u300, u301, u302, u303, u304, u305, u306, u307, u308, u309, u310, u311, u312, u313, u314, u315, u316, u317, u318, u319, u320, u321, u322, u323, u324, u325, u326, u327, u328, u329, u330, u331, u332], []⟩ w') :
    Code.wp Tryd.prog (piece 10) Q0 ⟨#[u0, u1, u2, u3, u4, u5, u6, .slice (some ⟨gH, 0, none⟩) 8 8, u8, u9, u10, u11, u12, u13, u14, u15, u16, .slice (some ⟨gs, 0, none⟩) 8 cs, u18, u19, u20, u21, u22, .int .i64 0, u24, u25, u26, u27, u28, u29, u30, u31, u32, u33, u34, u35, u36, u37, u38, u39, u40, u41, u42, u43, u44, u45, u46, u47, u48, u49, u50, u51, u52, u53, u54, u55, u56, u57, u58, u59, u60, u61, u62, u63, u64, u65, u66, u67, u68, u69, u70, u71, u72, u73, u74, u75, u76, u77, u78, u79, u80, u81, u82, u83, u84, u85, u86, u87, u88, u89, u90, u91, u92, u93, u94, u95, u96, u97, u98, u99, u100, u101, u102, u103, u104, u105, u106, u107, u108, u109, u110, u111, u112, u113, u114, u115, u116, u117, u118, u119, u120, u121, u122, u123, u124, u125, u126, u127, u128, u129, u130, u131, u132, u133, u134, u135, u136, u137, u138, u139, u140, u141, u142, u143, u144, u145, u146, u147, u148, u149, u150, u151, u152, u153, u154, u155, u156, u157, u158, u159, u160, u161, u162, u163, u164, u165, u166, u167, u168, u169, u170, u171, u172, u173, u174, u175, u176, u177, u178, u179, u180, u181, u182, u183, u184, u185, u186, u187, u188, u189, u190, u191, u192, u193, u194, u195, u196, u197, u198, u199, u200, u201, u202, u203, u204, u205, u206, u207, u208, u209, u210, u211, u212, u213, u214, u215, u216, u217, u218, u219, u220, u221, u222, u223, u224, u225, u226, u227, u228, u229, u230, u231, u232, u233, u234, u235, u236, u237, u238, u239, u240, u241, u242, u243, u244, u245, u246, u247, u248, u249, u250, u251, u252, u253, u254, u255, u256, u257, u258, u259, u260, u261, u262, u263, u264, u265, u266, u267, u268, u269, u270, u271, u272, u273, u274, u275, u276, u277, u278, u279, u280, u281, u282, u283, u284, u285, u286, u287, u288, u289, u290, u291, u292, u293, u294, u295, u296, u297, u298, u299, u300, u301, u302, u303, u304, u305, u306, u307, u308, u309, u310, u311, u312, u313, u314, u315, u316, u317, u318, u319, u320, u321, u322, u323, u324, u325, u326, u327, u328, u329, u330, u331, u332], []⟩ wr := by
  conv => arg 2; whnf
  have HQ := veil hQ
  have hne : gs ≠ gH := by have := hF.o3; omega
  have HNE := veil hne
  clear hQ hne
  go_wp2
  go_loopw [23] (fun v wr => ∃ i : Nat, i ≤ 8 ∧ v = .int .i64 (i : Int) ∧ Pre wr gs 42 8 (hst r) ∧ RF w wr gR gT gH gK N tx (fun j => if j < i then hst (addSt s r) j else hst s j))
    (fun v _ => 8 - (intOf v).toNat)
  case atStart => exact ⟨0, by omega, rfl, hS, hF.congrH fun j _ => (if_neg (by omega)).symm⟩
  case round =>
    obtain ⟨i, hi, rfl, hS, hF⟩ := hrel
    by_cases hlt : i < 8
    · have hd1 : decide ((i : Int) < 8) = true := by simp; omega
      have cs1 := hS.cell hlt
      have ch1 := hF.h.cell hlt
      have fh1 := hF.h.frozen i
      rw [if_neg (by omega)] at ch1
      unfold hst at cs1 ch1
      obtain ⟨x, hx⟩ : ∃ x, x = s.at i := ⟨_, rfl⟩
      obtain ⟨z, hz⟩ : ∃ x, x = r.at i := ⟨_, rfl⟩
      rw [← hx] at ch1
      rw [← hz] at cs1
      have ji : (i : Int) < 8 := by omega
      have wi : IntKind.i64.wrap (i : Int) = (i : Int) := IntWalk.i64_in _ (by omega)
      have sI := ad_mod x z
      have sW := ad_wrap x z
      have HX := veil (And.intro hx hz)
      clear hx hz
      go_wp2
      go_still_tail 11, (by kernel_rfl)
      change wpList _ _ _ _ _ wr.drew
      replace hF := hF.drew
      replace hS := hS.drew
      have cs2 : wr.drew.cell? ⟨gs, i, none⟩ = some (.int .u32 (z : Int)) := cs1
      have ch2 : wr.drew.cell? ⟨gH, i, none⟩ = some (.int .u32 (x : Int)) := ch1
      have fh2 : wr.drew.frozen? ⟨gH, i, none⟩ = false := fh1
      clear cs1 ch1 fh1
      generalize wr.drew = wr at *
      go_wp2
      go_roundw
      case rel =>
        refine ⟨i + 1, by omega, by go_num, hS.far HNE.out _, (hF.setH i _).congrH fun j hj => ?_⟩
        by_cases h : j = i
        · subst h
          rw [if_pos rfl, if_pos (by omega)]
          unfold hst
          rw [addSt_at, ← HX.out.1, ← HX.out.2]
        · rw [if_neg h]
          by_cases h2 : j < i
          · rw [if_pos h2, if_pos (by omega)]
          · rw [if_neg h2, if_neg (by omega)]
      case measure => simp [intOf]; omega
    · have e8 : i = 8 := by omega
      have hd1 : decide ((i : Int) < 8) = false := by simp; omega
      have hF' : RF w wr gR gT gH gK N tx (hst (addSt s r)) := hF.congrH fun j hj => by rw [if_pos (by omega)]
      clear e8 hlt hi hF
      go_wp2
      exact HQ.out _ _ _ _ _ _ _ _ _ _ _ _ _ _ _ _ _ wr hF'
end Go.Proofs.YtmgogcoafhompaaDoor
