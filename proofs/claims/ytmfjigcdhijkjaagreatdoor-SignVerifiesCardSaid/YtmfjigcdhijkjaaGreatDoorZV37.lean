/-
  Of NG.
-/
import Derived.Test.YtmfjigcdhijkjaaGreatDoorZV36
import Derived.Test.YtmfjigcdhijkjaaGreatDoorZV35
import Derived.Test.YtmfjigcdhijkjaaGreatDoorZV33
set_option maxRecDepth 1000000
set_option maxHeartbeats 20000000
namespace Go.Proofs.YtmfjigcdhijkjaaGreatDoor
theorem zct {D M i : Nat} {kL vL v1 a b c : List Nat} (h : KVL (kvN D M i) kL vL) (h1 : MacL kL vL a b c v1 32) (hm : mayB (num32 (fun j => v1.getD j 0)) = true) (hn : (outN D M i).length = i) : (outN D M (i + 1)).length = i + 1:=by
 have e : numN D M i = num32 (fun j => v1.getD j 0):=zhu (h.step h1).v
 have e2 : outN D M (i + 1) = if mayB (numN D M i) = true then outN D M i ++ [numN D M i] else outN D M i:=rfl
 rw [e2,e,if_pos hm,List.length_append,hn]; rfl
theorem fS1 : KVL (kvN exD exM 1) fK1 fV1:=fS.next fW0_mac fK1_mac fV1_mac
theorem fS2 : KVL (kvN exD exM 2) fK2 fV2:=fS1.next fW1_mac fK2_mac fV2_mac
theorem fS3 : KVL (kvN exD exM 3) fK3 fV3:=fS2.next fW2_mac fK3_mac fV3_mac
theorem fS4 : KVL (kvN exD exM 4) fK4 fV4:=fS3.next fW3_mac fK4_mac fV4_mac
theorem fS5 : KVL (kvN exD exM 5) fK5 fV5:=fS4.next fW4_mac fK5_mac fV5_mac
theorem fS6 : KVL (kvN exD exM 6) fK6 fV6:=fS5.next fW5_mac fK6_mac fV6_mac
theorem fS7 : KVL (kvN exD exM 7) fK7 fV7:=fS6.next fW6_mac fK7_mac fV7_mac
theorem fS8 : KVL (kvN exD exM 8) fK8 fV8:=fS7.next fW7_mac fK8_mac fV8_mac
theorem fS9 : KVL (kvN exD exM 9) fK9 fV9:=fS8.next fW8_mac fK9_mac fV9_mac
theorem fS10 : KVL (kvN exD exM 10) fK10 fV10:=fS9.next fW9_mac fK10_mac fV10_mac
theorem fS11 : KVL (kvN exD exM 11) fK11 fV11:=fS10.next fW10_mac fK11_mac fV11_mac
theorem fS12 : KVL (kvN exD exM 12) fK12 fV12:=fS11.next fW11_mac fK12_mac fV12_mac
theorem fS13 : KVL (kvN exD exM 13) fK13 fV13:=fS12.next fW12_mac fK13_mac fV13_mac
theorem fS14 : KVL (kvN exD exM 14) fK14 fV14:=fS13.next fW13_mac fK14_mac fV14_mac
theorem fS15 : KVL (kvN exD exM 15) fK15 fV15:=fS14.next fW14_mac fK15_mac fV15_mac
theorem fo0 : (outN exD exM 0).length = 0:=rfl
theorem fo1 : (outN exD exM 1).length = 1:=zct fS fW0_mac fmay0 fo0
theorem fo2 : (outN exD exM 2).length = 2:=zct fS1 fW1_mac fmay1 fo1
theorem fo3 : (outN exD exM 3).length = 3:=zct fS2 fW2_mac fmay2 fo2
theorem fo4 : (outN exD exM 4).length = 4:=zct fS3 fW3_mac fmay3 fo3
theorem fo5 : (outN exD exM 5).length = 5:=zct fS4 fW4_mac fmay4 fo4
theorem fo6 : (outN exD exM 6).length = 6:=zct fS5 fW5_mac fmay5 fo5
theorem fo7 : (outN exD exM 7).length = 7:=zct fS6 fW6_mac fmay6 fo6
theorem fo8 : (outN exD exM 8).length = 8:=zct fS7 fW7_mac fmay7 fo7
theorem fo9 : (outN exD exM 9).length = 9:=zct fS8 fW8_mac fmay8 fo8
theorem fo10 : (outN exD exM 10).length = 10:=zct fS9 fW9_mac fmay9 fo9
theorem fo11 : (outN exD exM 11).length = 11:=zct fS10 fW10_mac fmay10 fo10
theorem fo12 : (outN exD exM 12).length = 12:=zct fS11 fW11_mac fmay11 fo11
theorem fo13 : (outN exD exM 13).length = 13:=zct fS12 fW12_mac fmay12 fo12
theorem fo14 : (outN exD exM 14).length = 14:=zct fS13 fW13_mac fmay13 fo13
theorem fo15 : (outN exD exM 15).length = 15:=zct fS14 fW14_mac fmay14 fo14
theorem fo16 : (outN exD exM 16).length = 16:=zct fS15 fW15_mac fmay15 fo15
theorem ex_16 : Ends exD exM 16 16:=⟨by decide,fun j hj => by
 obtain rfl | rfl | rfl | rfl | rfl | rfl | rfl | rfl | rfl | rfl | rfl | rfl | rfl | rfl | rfl | rfl : j = 0 ∨ j = 1 ∨ j = 2 ∨ j = 3 ∨ j = 4 ∨ j = 5 ∨ j = 6 ∨ j = 7 ∨ j = 8 ∨ j = 9 ∨ j = 10 ∨ j = 11 ∨ j = 12 ∨ j = 13 ∨ j = 14 ∨ j = 15:=by omega
 ·
  rw [fo0]; decide
 ·
  rw [fo1]; decide
 ·
  rw [fo2]; decide
 ·
  rw [fo3]; decide
 ·
  rw [fo4]; decide
 ·
  rw [fo5]; decide
 ·
  rw [fo6]; decide
 ·
  rw [fo7]; decide
 ·
  rw [fo8]; decide
 ·
  rw [fo9]; decide
 ·
  rw [fo10]; decide
 ·
  rw [fo11]; decide
 ·
  rw [fo12]; decide
 ·
  rw [fo13]; decide
 ·
  rw [fo14]; decide
 ·
  rw [fo15]; decide,.inr (by rw [fo16]; decide)⟩
theorem ex_first : ∃ r,outN exD exM 16 = exX :: r:=by
 obtain ⟨r,hr⟩:=outN_mono exD exM 1 16 (by decide)
 rw [ex_out] at hr
 exact ⟨r,hr⟩
end Go.Proofs.YtmfjigcdhijkjaaGreatDoor
