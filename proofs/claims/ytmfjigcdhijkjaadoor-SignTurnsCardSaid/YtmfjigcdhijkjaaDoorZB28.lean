/-
  Of W1.
-/
import Derived.Test.YtmfjigcdhijkjaaDoorZB15
import Derived.Test.YtmfjigcdhijkjaaDoorZB27
set_option maxRecDepth 1000000
set_option maxHeartbeats 20000000
namespace Go.Proofs.YtmfjigcdhijkjaaDoor
open Go.RowKit
open Go.Act renaming put → aP
open List renaming setIfInBounds_toArray → lA, set_cons_zero → lZ, set_cons_succ → lS
theorem ver_at (C : Code7) {R S : Nat} {y : Nat → Nat} (P : Pt.Q) (hv : Pt.verB P (num32 y) R S = true) (hR : R < top) (hS : S < top) (hy : ∀ j,y j < 256) (W : World) : Calls Tryd.prog 13 #[qv (Pt.pX P.1) (Pt.pY P.1) (Pt.pFar P.1),dgv y,gv R S] W fun e w' => e = .returned (.bool true) ∧ Ext W w':=by
 have h:=C.chk_yes P R S y W hR hS hy
 rw [hv] at h
 exact h
theorem holds_bad (hC : Code7) {D : Nat} (hD : D < top) (hmay : mayB D = false) (y : Nat → Nat) {w : World} (hK : KT w) :
  Calls Tryd.prog 4 #[nv D,dgv y] w fun e w' => e = .returned (.bool true) ∧ Ext w w':=by
 have kC:=veil hC
 have kD:=veil hD
 have kmay:=veil hmay
 have kK:=veil hK
 clear hK hmay hD hC
 unfold nv nc dgv dgc
 go_enter Tryd.func4,Tryd.ntmps4
 go_upto_region 1 with (fail)
 obtain ⟨hx,b0,b1⟩:=blocks2 w (.cells #[.int .u64 (wd D 0),.int .u64 (wd D 1),.int .u64 (wd D 2),.int .u64 (wd D 3)] 24) (.cells (arrOf 32 fun i => .int .u8 (y i : Nat)) 38)
 generalize (w.alloc (.cells #[.int .u64 (wd D 0),.int .u64 (wd D 1),.int .u64 (wd D 2),.int .u64 (wd D 3)] 24)).alloc (.cells (arrOf 32 fun i => .int .u8 (y i : Nat)) 38) = w1 at *
 have b0 : w1.heap[w.heap.size]? = some (.cells (nc D) 24 (0,0)):=b0
 have b1 : w1.heap[w.heap.size + 1]? = some (.cells (dgc y) 38 (0,0)):=b1
 refine' zaj (m:=2) (A:=_) (by kernel_rfl) ?h1 ?h2
 case h1 =>
  refine zaa (.bool true) rfl (zaf (args:=[]) rfl rfl (fun W => zab Tryd.func6 rfl rfl _ W) (fun W hW => kC.out.up W (kK.out.call (hx.trans hW)))) ?_;simp only [aP,lA,lZ,lS]
  refine zaa (.bool true) rfl (zae (.inr rfl) rfl) ?_;simp only [aP,lA,lZ,lS]
  exact zah
 refine zam rfl ?_
 intro w2 hE
 replace b0:=hE.block b0
 replace b1:=hE.block b1
 replace hx:=hx.trans hE
 clear hE
 go_upto_region 2 with (fail)
 refine' zaj (m:=5) (A:=_) (by kernel_rfl) ?h2a ?h2b
 case h2a =>
  refine zaa (nv D) rfl (zac rfl rfl b0 rfl uN rfl (iN _)) ?_;simp only [aP,lA,lZ,lS]
  refine zaa (.tuple #[qv 0 0 false,.iface 34 (.int .i64 1)]) rfl (zaf (args:=[nv D]) rfl rfl (fun W => zab Tryd.func11 rfl rfl _ W) (fun W hW => kC.out.pub_bad D W kD.out kmay.out)) ?_;simp only [aP,lA,lZ,lS]
  refine zaa (.tuple #[qv 0 0 false,.iface 34 (.int .i64 1)]) rfl (zae (.inl rfl) rfl) ?_;simp only [aP,lA,lZ,lS]
  refine zaa (qv 0 0 false) rfl (zar rfl rfl rfl) ?_;simp only [aP,lA,lZ,lS]
  refine zaa (.iface 34 (.int .i64 1)) rfl (zar rfl rfl rfl) ?_;simp only [aP,lA,lZ,lS]
  exact zah
 refine zbf _ _ rfl rfl rfl rfl rfl rfl rfl (hzT ·) (fun _ => rfl) (fun _ => rfl) (iT _ _ _) rfl (zdd _ _ _) ?_
 intro gq w3 hgq bq hE
 replace b0:=hE.block b0
 replace b1:=hE.block b1
 replace hx:=hx.trans hE
 clear hE
 simp only [aP,lA,lZ,lS]
 clear hgq
 go_upto_region 3 with (fail)
 refine' zaj (m:=6) (A:=_) (by kernel_rfl) ?h3a ?h3b
 case h3a =>
  refine zaa (nv D) rfl (zac rfl rfl b0 rfl uN rfl (iN _)) ?_;simp only [aP,lA,lZ,lS]
  refine zaa (dgv y) rfl (zac rfl rfl b1 rfl Tryd.underlying38 rfl (iDg _)) ?_;simp only [aP,lA,lZ,lS]
  refine zaa (.tuple #[gv 0 0,.iface 34 (.int .i64 1)]) rfl (zaf (args:=[nv D,dgv y]) rfl rfl (fun W => zab Tryd.func12 rfl rfl _ W) (fun W hW => kC.out.sign_bad D y W kD.out (kK.out.call (hx.trans hW)) kmay.out)) ?_;simp only [aP,lA,lZ,lS]
  refine zaa (.tuple #[gv 0 0,.iface 34 (.int .i64 1)]) rfl (zae (.inl rfl) rfl) ?_;simp only [aP,lA,lZ,lS]
  refine zaa (gv 0 0) rfl (zar rfl rfl rfl) ?_;simp only [aP,lA,lZ,lS]
  refine zaa (.iface 34 (.int .i64 1)) rfl (zar rfl rfl rfl) ?_;simp only [aP,lA,lZ,lS]
  exact zah
 refine zbf _ _ rfl rfl rfl rfl rfl rfl rfl (hzG ·) (fun _ => rfl) (fun _ => rfl) (iSg _ _) rfl (zbu _ _) ?_
 intro gs w4 hgs bs hE
 replace hx:=hx.trans hE
 clear hE
 simp only [aP,lA,lZ,lS]
 clear hgs
 go_upto_region 4 with (fail)
 refine' zbp (m:=6) (A:=_) ?h4a ?h4b
 case h4a =>
  refine zaa (.iface 34 (.int .i64 1)) rfl (zae (.inl rfl) rfl) ?_;simp only [aP,lA,lZ,lS]
  refine zaa (.bool true) rfl (zbs rfl rfl rfl (fun _ => by kernel_rfl) (fun _ => by kernel_rfl)) ?_;simp only [aP,lA,lZ,lS]
  refine zaa (.bool true) rfl (zae (.inl rfl) rfl) ?_;simp only [aP,lA,lZ,lS]
  refine zaw rfl ?_;simp only [aP,lA,lZ,lS]
  refine zaw rfl ?_;simp only [aP,lA,lZ,lS]
  refine zaa (.bool true) rfl (zaq rfl rfl rfl) ?_;simp only [aP,lA,lZ,lS]
  exact zah
 refine zam rfl ?_
 intro w5 hE
 replace bs:=hE.block bs
 replace hx:=hx.trans hE
 clear hE
 go_upto_region 5 with (fail)
 refine' zbp (m:=7) (A:=_) ?h5a ?h5b
 case h5a =>
  refine zaa (.bool true) rfl (zae (.inl rfl) rfl) ?_;simp only [aP,lA,lZ,lS]
  refine zaa (.bool true) rfl (zae (.inl rfl) rfl) ?_;simp only [aP,lA,lZ,lS]
  refine zag (gv 0 0) rfl (zac rfl rfl bs rfl Tryd.underlying26 rfl (iSg _ _)) ?_;simp only [aP,lA,lZ,lS]
  refine zag (gv 0 0) rfl (zau rfl rfl (bldG0 ·)) ?_;simp only [aP,lA,lZ,lS]
  refine zag (.bool true) rfl (zbs rfl rfl rfl (gG _ _ _ _ _ _ _) (eqG zcp zcp)) ?_;simp only [aP,lA,lZ,lS]
  refine zaa (.bool true) rfl (zaq rfl rfl rfl) ?_;simp only [aP,lA,lZ,lS]
  refine zaa (.bool true) rfl (zae (.inr rfl) rfl) ?_;simp only [aP,lA,lZ,lS]
  exact zah
 refine zam rfl ?_
 intro w6 hE
 replace hx:=hx.trans hE
 clear hE
 go_wp2
 go_ret
 exact ⟨rfl,hx⟩
theorem holds_none (hC : Code7) {D s : Nat} (hmay : mayB D = true) (y : Nat → Nat) (hy : ∀ j,y j < 256) (hE : Ends D (num32 y % Pt.nn) 16 s) (ho : sigOf D (num32 y) (outN D (num32 y % Pt.nn) s) = none) {P : Pt.Q} (hP : P = Pt.grp.mul D Pt.base) {w : World} (hK : KT w) :
  Calls Tryd.prog 4 #[nv D,dgv y] w fun e w' => e = .returned (.bool true) ∧ Ext w w':=by
 have kC:=veil hC
 have kmay:=veil hmay
 have ky:=veil hy
 have kE:=veil hE
 have ko:=veil ho
 have kP:=veil hP
 have kK:=veil hK
 clear hK hP ho hE hy hmay hC
 unfold nv nc dgv dgc
 go_enter Tryd.func4,Tryd.ntmps4
 go_upto_region 1 with (fail)
 obtain ⟨hx,b0,b1⟩:=blocks2 w (.cells #[.int .u64 (wd D 0),.int .u64 (wd D 1),.int .u64 (wd D 2),.int .u64 (wd D 3)] 24) (.cells (arrOf 32 fun i => .int .u8 (y i : Nat)) 38)
 generalize (w.alloc (.cells #[.int .u64 (wd D 0),.int .u64 (wd D 1),.int .u64 (wd D 2),.int .u64 (wd D 3)] 24)).alloc (.cells (arrOf 32 fun i => .int .u8 (y i : Nat)) 38) = w1 at *
 have b0 : w1.heap[w.heap.size]? = some (.cells (nc D) 24 (0,0)):=b0
 have b1 : w1.heap[w.heap.size + 1]? = some (.cells (dgc y) 38 (0,0)):=b1
 refine' zaj (m:=2) (A:=_) (by kernel_rfl) ?h1 ?h2
 case h1 =>
  refine zaa (.bool true) rfl (zaf (args:=[]) rfl rfl (fun W => zab Tryd.func6 rfl rfl _ W) (fun W hW => kC.out.up W (kK.out.call (hx.trans hW)))) ?_;simp only [aP,lA,lZ,lS]
  refine zaa (.bool true) rfl (zae (.inr rfl) rfl) ?_;simp only [aP,lA,lZ,lS]
  exact zah
 refine zam rfl ?_
 intro w2 hE
 replace b0:=hE.block b0
 replace b1:=hE.block b1
 replace hx:=hx.trans hE
 clear hE
 go_upto_region 2 with (fail)
 refine' zaj (m:=5) (A:=_) (by kernel_rfl) ?h2a ?h2b
 case h2a =>
  refine zaa (nv D) rfl (zac rfl rfl b0 rfl uN rfl (iN _)) ?_;simp only [aP,lA,lZ,lS]
  refine zaa (.tuple #[qv (Pt.pX P.1) (Pt.pY P.1) (Pt.pFar P.1),.nilIface]) rfl (zaf (args:=[nv D]) rfl rfl (fun W => zab Tryd.func11 rfl rfl _ W) (fun W hW => vpub_is kC.out kP.out kmay.out W)) ?_;simp only [aP,lA,lZ,lS]
  refine zaa (.tuple #[qv (Pt.pX P.1) (Pt.pY P.1) (Pt.pFar P.1),.nilIface]) rfl (zae (.inl rfl) rfl) ?_;simp only [aP,lA,lZ,lS]
  refine zaa (qv (Pt.pX P.1) (Pt.pY P.1) (Pt.pFar P.1)) rfl (zar rfl rfl rfl) ?_;simp only [aP,lA,lZ,lS]
  refine zaa (.nilIface) rfl (zar rfl rfl rfl) ?_;simp only [aP,lA,lZ,lS]
  exact zah
 refine zbf _ _ rfl rfl rfl rfl rfl rfl rfl (hzT ·) (fun _ => rfl) (fun _ => rfl) (iT _ _ _) rfl (zdd _ _ _) ?_
 intro gq w3 hgq bq hE
 replace b0:=hE.block b0
 replace b1:=hE.block b1
 replace hx:=hx.trans hE
 clear hE
 simp only [aP,lA,lZ,lS]
 clear hgq
 go_upto_region 3 with (fail)
 refine' zaj (m:=6) (A:=_) (by kernel_rfl) ?h3a ?h3b
 case h3a =>
  refine zaa (nv D) rfl (zac rfl rfl b0 rfl uN rfl (iN _)) ?_;simp only [aP,lA,lZ,lS]
  refine zaa (dgv y) rfl (zac rfl rfl b1 rfl Tryd.underlying38 rfl (iDg _)) ?_;simp only [aP,lA,lZ,lS]
  refine zaa (.tuple #[gv 0 0,.iface 34 (.int .i64 4)]) rfl (zaf (args:=[nv D,dgv y]) rfl rfl (fun W => zab Tryd.func12 rfl rfl _ W) (fun W hW => vsign_none kC.out kmay.out ky.out kE.out ko.out W (kK.out.call (hx.trans hW)))) ?_;simp only [aP,lA,lZ,lS]
  refine zaa (.tuple #[gv 0 0,.iface 34 (.int .i64 4)]) rfl (zae (.inl rfl) rfl) ?_;simp only [aP,lA,lZ,lS]
  refine zaa (gv 0 0) rfl (zar rfl rfl rfl) ?_;simp only [aP,lA,lZ,lS]
  refine zaa (.iface 34 (.int .i64 4)) rfl (zar rfl rfl rfl) ?_;simp only [aP,lA,lZ,lS]
  exact zah
 refine zbf _ _ rfl rfl rfl rfl rfl rfl rfl (hzG ·) (fun _ => rfl) (fun _ => rfl) (iSg _ _) rfl (zbu _ _) ?_
 intro gs w4 hgs bs hE
 replace hx:=hx.trans hE
 clear hE
 simp only [aP,lA,lZ,lS]
 clear hgs
 go_upto_region 4 with (fail)
 refine' zbp (m:=6) (A:=_) ?h4a ?h4b
 case h4a =>
  refine zaa (.nilIface) rfl (zae (.inl rfl) rfl) ?_;simp only [aP,lA,lZ,lS]
  refine zaa (.bool false) rfl (zbs rfl rfl rfl (fun _ => by kernel_rfl) (fun _ => by kernel_rfl)) ?_;simp only [aP,lA,lZ,lS]
  refine zaa (.bool false) rfl (zae (.inl rfl) rfl) ?_;simp only [aP,lA,lZ,lS]
  refine zag (.iface 34 (.int .i64 4)) rfl (zae (.inl rfl) rfl) ?_;simp only [aP,lA,lZ,lS]
  refine zag (.bool true) rfl (zbs rfl rfl rfl (fun _ => by kernel_rfl) (fun _ => by kernel_rfl)) ?_;simp only [aP,lA,lZ,lS]
  refine zaa (.bool true) rfl (zaq rfl rfl rfl) ?_;simp only [aP,lA,lZ,lS]
  exact zah
 refine zam rfl ?_
 intro w5 hE
 replace bs:=hE.block bs
 replace hx:=hx.trans hE
 clear hE
 go_upto_region 5 with (fail)
 refine' zbp (m:=7) (A:=_) ?h5a ?h5b
 case h5a =>
  refine zaa (.bool true) rfl (zae (.inl rfl) rfl) ?_;simp only [aP,lA,lZ,lS]
  refine zaa (.bool true) rfl (zae (.inl rfl) rfl) ?_;simp only [aP,lA,lZ,lS]
  refine zag (gv 0 0) rfl (zac rfl rfl bs rfl Tryd.underlying26 rfl (iSg _ _)) ?_;simp only [aP,lA,lZ,lS]
  refine zag (gv 0 0) rfl (zau rfl rfl (bldG0 ·)) ?_;simp only [aP,lA,lZ,lS]
  refine zag (.bool true) rfl (zbs rfl rfl rfl (gG _ _ _ _ _ _ _) (eqG zcp zcp)) ?_;simp only [aP,lA,lZ,lS]
  refine zaa (.bool true) rfl (zaq rfl rfl rfl) ?_;simp only [aP,lA,lZ,lS]
  refine zaa (.bool true) rfl (zae (.inr rfl) rfl) ?_;simp only [aP,lA,lZ,lS]
  exact zah
 refine zam rfl ?_
 intro w6 hE
 replace hx:=hx.trans hE
 clear hE
 go_wp2
 go_ret
 exact ⟨rfl,hx⟩
theorem holds_some (hC : Code7) {D s : Nat} (hmay : mayB D = true) (y : Nat → Nat) (hy : ∀ j,y j < 256) (hE : Ends D (num32 y % Pt.nn) 16 s) (hA : CodeD) {r z : Nat} (ho : sigOf D (num32 y) (outN D (num32 y % Pt.nn) s) = some (r,z)) {P : Pt.Q} (hP : P = Pt.grp.mul D Pt.base) (hf : Pt.pFar P.1 = false) (hv : Pt.verB P (num32 y) r z = true) {w : World} (hK : KT w) :
  Calls Tryd.prog 4 #[nv D,dgv y] w fun e w' => e = .returned (.bool true) ∧ Ext w w':=by
 have kC:=veil hC
 have kV:=veil (fun W => ver_at hC P hv (sigOf_top ho).1 (sigOf_top ho).2 hy W)
 have kmay:=veil hmay
 have ky:=veil hy
 have kE:=veil hE
 have kA:=veil hA
 have ko:=veil ho
 have kP:=veil hP
 have kf:=veil hf
 have kv:=veil hv
 have kK:=veil hK
 clear hK hv hf hP ho hA hE hy hmay hC
 unfold nv nc dgv dgc
 go_enter Tryd.func4,Tryd.ntmps4
 go_upto_region 1 with (fail)
 obtain ⟨hx,b0,b1⟩:=blocks2 w (.cells #[.int .u64 (wd D 0),.int .u64 (wd D 1),.int .u64 (wd D 2),.int .u64 (wd D 3)] 24) (.cells (arrOf 32 fun i => .int .u8 (y i : Nat)) 38)
 generalize (w.alloc (.cells #[.int .u64 (wd D 0),.int .u64 (wd D 1),.int .u64 (wd D 2),.int .u64 (wd D 3)] 24)).alloc (.cells (arrOf 32 fun i => .int .u8 (y i : Nat)) 38) = w1 at *
 have b0 : w1.heap[w.heap.size]? = some (.cells (nc D) 24 (0,0)):=b0
 have b1 : w1.heap[w.heap.size + 1]? = some (.cells (dgc y) 38 (0,0)):=b1
 refine' zaj (m:=2) (A:=_) (by kernel_rfl) ?h1 ?h2
 case h1 =>
  refine zaa (.bool true) rfl (zaf (args:=[]) rfl rfl (fun W => zab Tryd.func6 rfl rfl _ W) (fun W hW => kC.out.up W (kK.out.call (hx.trans hW)))) ?_;simp only [aP,lA,lZ,lS]
  refine zaa (.bool true) rfl (zae (.inr rfl) rfl) ?_;simp only [aP,lA,lZ,lS]
  exact zah
 refine zam rfl ?_
 intro w2 hE
 replace b0:=hE.block b0
 replace b1:=hE.block b1
 replace hx:=hx.trans hE
 clear hE
 go_upto_region 2 with (fail)
 refine' zaj (m:=5) (A:=_) (by kernel_rfl) ?h2a ?h2b
 case h2a =>
  refine zaa (nv D) rfl (zac rfl rfl b0 rfl uN rfl (iN _)) ?_;simp only [aP,lA,lZ,lS]
  refine zaa (.tuple #[qv (Pt.pX P.1) (Pt.pY P.1) (Pt.pFar P.1),.nilIface]) rfl (zaf (args:=[nv D]) rfl rfl (fun W => zab Tryd.func11 rfl rfl _ W) (fun W hW => vpub_is kC.out kP.out kmay.out W)) ?_;simp only [aP,lA,lZ,lS]
  refine zaa (.tuple #[qv (Pt.pX P.1) (Pt.pY P.1) (Pt.pFar P.1),.nilIface]) rfl (zae (.inl rfl) rfl) ?_;simp only [aP,lA,lZ,lS]
  refine zaa (qv (Pt.pX P.1) (Pt.pY P.1) (Pt.pFar P.1)) rfl (zar rfl rfl rfl) ?_;simp only [aP,lA,lZ,lS]
  refine zaa (.nilIface) rfl (zar rfl rfl rfl) ?_;simp only [aP,lA,lZ,lS]
  exact zah
 refine zbf _ _ rfl rfl rfl rfl rfl rfl rfl (hzT ·) (fun _ => rfl) (fun _ => rfl) (iT _ _ _) rfl (zdd _ _ _) ?_
 intro gq w3 hgq bq hE
 replace b0:=hE.block b0
 replace b1:=hE.block b1
 replace hx:=hx.trans hE
 clear hE
 simp only [aP,lA,lZ,lS]
 clear hgq
 go_upto_region 3 with (fail)
 refine' zaj (m:=6) (A:=_) (by kernel_rfl) ?h3a ?h3b
 case h3a =>
  refine zaa (nv D) rfl (zac rfl rfl b0 rfl uN rfl (iN _)) ?_;simp only [aP,lA,lZ,lS]
  refine zaa (dgv y) rfl (zac rfl rfl b1 rfl Tryd.underlying38 rfl (iDg _)) ?_;simp only [aP,lA,lZ,lS]
  refine zaa (.tuple #[gv r z,.nilIface]) rfl (zaf (args:=[nv D,dgv y]) rfl rfl (fun W => zab Tryd.func12 rfl rfl _ W) (fun W hW => vsign_some kC.out kmay.out ky.out kE.out ko.out W (kK.out.call (hx.trans hW)))) ?_;simp only [aP,lA,lZ,lS]
  refine zaa (.tuple #[gv r z,.nilIface]) rfl (zae (.inl rfl) rfl) ?_;simp only [aP,lA,lZ,lS]
  refine zaa (gv r z) rfl (zar rfl rfl rfl) ?_;simp only [aP,lA,lZ,lS]
  refine zaa (.nilIface) rfl (zar rfl rfl rfl) ?_;simp only [aP,lA,lZ,lS]
  exact zah
 refine zbf _ _ rfl rfl rfl rfl rfl rfl rfl (hzG ·) (fun _ => rfl) (fun _ => rfl) (iSg _ _) rfl (zbu _ _) ?_
 intro gs w4 hgs bs hE
 replace b1:=hE.block b1
 replace bq:=hE.block bq
 replace hx:=hx.trans hE
 clear hE
 simp only [aP,lA,lZ,lS]
 clear hgs
 go_upto_region 4 with (fail)
 refine' zbp (m:=6) (A:=_) ?h4a ?h4b
 case h4a =>
  refine zaa (.nilIface) rfl (zae (.inl rfl) rfl) ?_;simp only [aP,lA,lZ,lS]
  refine zaa (.bool false) rfl (zbs rfl rfl rfl (fun _ => by kernel_rfl) (fun _ => by kernel_rfl)) ?_;simp only [aP,lA,lZ,lS]
  refine zaa (.bool false) rfl (zae (.inl rfl) rfl) ?_;simp only [aP,lA,lZ,lS]
  refine zag (.nilIface) rfl (zae (.inl rfl) rfl) ?_;simp only [aP,lA,lZ,lS]
  refine zag (.bool false) rfl (zbs rfl rfl rfl (fun _ => by kernel_rfl) (fun _ => by kernel_rfl)) ?_;simp only [aP,lA,lZ,lS]
  refine zaa (.bool false) rfl (zaq rfl rfl rfl) ?_;simp only [aP,lA,lZ,lS]
  exact zah
 refine zam rfl ?_
 intro w5 hE
 replace b1:=hE.block b1
 replace bq:=hE.block bq
 replace bs:=hE.block bs
 replace hx:=hx.trans hE
 clear hE
 go_upto_region 6 with (fail)
 have bq : w5.heap[gq]? = some (.cells (qc (Pt.pX P.1) (Pt.pY P.1) false) 40 (0,0)):=by rw [← kf.out]; exact bq
 refine' zbp (m:=17) (A:=_) ?h5a ?h5b
 case h5a =>
  refine zaa (.bool true) rfl (zae (.inl rfl) rfl) ?_;simp only [aP,lA,lZ,lS]
  refine zaa (.bool true) rfl (zae (.inl rfl) rfl) ?_;simp only [aP,lA,lZ,lS]
  refine zag (qv (Pt.pX P.1) (Pt.pY P.1) false) rfl (zac rfl rfl bq rfl Tryd.underlying40 rfl (iT _ _ _)) ?_;simp only [aP,lA,lZ,lS]
  refine zag (dgv y) rfl (zac rfl rfl b1 rfl Tryd.underlying38 rfl (iDg _)) ?_;simp only [aP,lA,lZ,lS]
  refine zag (gv r z) rfl (zac rfl rfl bs rfl Tryd.underlying26 rfl (iSg _ _)) ?_;simp only [aP,lA,lZ,lS]
  refine zag (.bool true) rfl (zaf (args:=[qv (Pt.pX P.1) (Pt.pY P.1) false,dgv y,gv r z]) rfl rfl (fun W => zab Tryd.func13 rfl rfl _ W) (fun W hW => by rw [← kf.out]; exact kV.out W)) ?_;simp only [aP,lA,lZ,lS]
  refine zaa (.bool true) rfl (zaq rfl rfl rfl) ?_;simp only [aP,lA,lZ,lS]
  refine zaa (.bool true) rfl (zae (.inl rfl) rfl) ?_;simp only [aP,lA,lZ,lS]
  refine zag (qv (Pt.pX P.1) (Pt.pY P.1) false) rfl (zac rfl rfl bq rfl Tryd.underlying40 rfl (iT _ _ _)) ?_;simp only [aP,lA,lZ,lS]
  refine zag (.bool true) rfl (zaf (args:=[qv (Pt.pX P.1) (Pt.pY P.1) false]) rfl rfl (fun W => zab Tryd.func14 rfl rfl _ W) (fun W hW => by rw [← kf.out]; exact kA.out.on_q P W)) ?_;simp only [aP,lA,lZ,lS]
  refine zaa (.bool true) rfl (zaq rfl rfl rfl) ?_;simp only [aP,lA,lZ,lS]
  refine zaa (.bool true) rfl (zae (.inl rfl) rfl) ?_;simp only [aP,lA,lZ,lS]
  refine zag (.pointer (some ⟨gq,8,none⟩)) rfl (zad rfl rfl (fldT2 _ ·)) ?_;simp only [aP,lA,lZ,lS]
  refine zag (.bool false) rfl (zai rfl rfl bq rfl (zbr ·)) ?_;simp only [aP,lA,lZ,lS]
  refine zag (.bool true) rfl (zaz rfl rfl rfl) ?_;simp only [aP,lA,lZ,lS]
  refine zaa (.bool true) rfl (zaq rfl rfl rfl) ?_;simp only [aP,lA,lZ,lS]
  refine zaa (.bool true) rfl (zae (.inr rfl) rfl) ?_;simp only [aP,lA,lZ,lS]
  exact zah
 refine zam rfl ?_
 intro w6 hE
 replace hx:=hx.trans hE
 clear hE
 go_wp2
 go_ret
 exact ⟨rfl,hx⟩
theorem turns_off_no (hC : Code7) {X Y R S : Nat} {f : Bool} (hX : X < top) (hY : Y < top) (hR : R < top) (hS : S < top) (hon : onB X Y f = false) (y : Nat → Nat) (hmay : mayB S = false) {w : World} (hK : KT w) :
  Calls Tryd.prog 5 #[qv X Y f,dgv y,gv R S] w fun e w' => e = .returned (.bool true) ∧ Ext w w':=by
 have kC:=veil hC
 have kX:=veil hX
 have kY:=veil hY
 have kR:=veil hR
 have kS:=veil hS
 have kon:=veil hon
 have kmay:=veil hmay
 have kK:=veil hK
 clear hK hmay hon hS hR hY hX hC
 unfold qv qc gv gc dgv dgc
 go_enter Tryd.func5,Tryd.ntmps5
 go_upto_region 1 with (fail)
 obtain ⟨hx,b0,b1,b2⟩:=blocks3 w (.cells #[.int .u64 (wd X 0),.int .u64 (wd X 1),.int .u64 (wd X 2),.int .u64 (wd X 3),.int .u64 (wd Y 0),.int .u64 (wd Y 1),.int .u64 (wd Y 2),.int .u64 (wd Y 3),.bool (f)] 40) (.cells (arrOf 32 fun i => .int .u8 (y i : Nat)) 38) (.cells #[.int .u64 (wd R 0),.int .u64 (wd R 1),.int .u64 (wd R 2),.int .u64 (wd R 3),.int .u64 (wd S 0),.int .u64 (wd S 1),.int .u64 (wd S 2),.int .u64 (wd S 3)] 26)
 generalize ((w.alloc (.cells #[.int .u64 (wd X 0),.int .u64 (wd X 1),.int .u64 (wd X 2),.int .u64 (wd X 3),.int .u64 (wd Y 0),.int .u64 (wd Y 1),.int .u64 (wd Y 2),.int .u64 (wd Y 3),.bool (f)] 40)).alloc (.cells (arrOf 32 fun i => .int .u8 (y i : Nat)) 38)).alloc (.cells #[.int .u64 (wd R 0),.int .u64 (wd R 1),.int .u64 (wd R 2),.int .u64 (wd R 3),.int .u64 (wd S 0),.int .u64 (wd S 1),.int .u64 (wd S 2),.int .u64 (wd S 3)] 26) = w1 at *
 have b0 : w1.heap[w.heap.size]? = some (.cells (qc X Y f) 40 (0,0)):=b0
 have b1 : w1.heap[w.heap.size + 1]? = some (.cells (dgc y) 38 (0,0)):=b1
 have b2 : w1.heap[w.heap.size + 1 + 1]? = some (.cells (gc R S) 26 (0,0)):=b2
 refine' zaj (m:=2) (A:=_) (by kernel_rfl) ?h1 ?h2
 case h1 =>
  refine zaa (.bool true) rfl (zaf (args:=[]) rfl rfl (fun W => zab Tryd.func6 rfl rfl _ W) (fun W hW => kC.out.up W (kK.out.call (hx.trans hW)))) ?_;simp only [aP,lA,lZ,lS]
  refine zaa (.bool true) rfl (zae (.inr rfl) rfl) ?_;simp only [aP,lA,lZ,lS]
  exact zah
 refine zam rfl ?_
 intro w2 hE
 replace b0:=hE.block b0
 replace b1:=hE.block b1
 replace b2:=hE.block b2
 replace hx:=hx.trans hE
 clear hE
 go_upto_region 2 with (fail)
 refine' zaj (m:=4) (A:=_) (by kernel_rfl) ?h2a ?h2b
 case h2a =>
  refine zaa (.pointer (some ⟨w.heap.size + 1 + 1,4,none⟩)) rfl (zad rfl rfl (fldG1 _ ·)) ?_;simp only [aP,lA,lZ,lS]
  refine zaa (nv S) rfl (zac rfl rfl b2 rfl uN rfl (iN _)) ?_;simp only [aP,lA,lZ,lS]
  refine zaa (.bool false) rfl (zaf (args:=[nv S]) rfl rfl (fun W => zab Tryd.func15 rfl rfl _ W) (fun W hW => rmay_is kmay.out kS.out W)) ?_;simp only [aP,lA,lZ,lS]
  refine zaa (.bool false) rfl (zae (.inr rfl) rfl) ?_;simp only [aP,lA,lZ,lS]
  exact zah
 refine zam rfl ?_
 intro w3 hE
 replace b0:=hE.block b0
 replace b1:=hE.block b1
 replace b2:=hE.block b2
 replace hx:=hx.trans hE
 clear hE
 go_upto_region 3 with (fail)
 refine' zaj (m:=2) (A:=_) (by kernel_rfl) ?h3a ?h3b
 case h3a =>
  refine zaa (.bool false) rfl (zae (.inl rfl) rfl) ?_;simp only [aP,lA,lZ,lS]
  refine zaa (.bool true) rfl (zaz rfl rfl rfl) ?_;simp only [aP,lA,lZ,lS]
  exact zah
 refine zam rfl ?_
 intro w4 hE
 replace b0:=hE.block b0
 replace b1:=hE.block b1
 replace b2:=hE.block b2
 replace hx:=hx.trans hE
 clear hE
 go_upto_region 4 with (fail)
 refine' zbp (m:=9) (A:=_) ?h4a ?h4b
 case h4a =>
  refine zaa (.bool true) rfl (zae (.inl rfl) rfl) ?_;simp only [aP,lA,lZ,lS]
  refine zaa (.bool true) rfl (zae (.inl rfl) rfl) ?_;simp only [aP,lA,lZ,lS]
  refine zag (qv X Y f) rfl (zac rfl rfl b0 rfl Tryd.underlying40 rfl (iT _ _ _)) ?_;simp only [aP,lA,lZ,lS]
  refine zag (dgv y) rfl (zac rfl rfl b1 rfl Tryd.underlying38 rfl (iDg _)) ?_;simp only [aP,lA,lZ,lS]
  refine zag (gv R S) rfl (zac rfl rfl b2 rfl Tryd.underlying26 rfl (iSg _ _)) ?_;simp only [aP,lA,lZ,lS]
  refine zag (.bool false) rfl (zaf (args:=[qv X Y f,dgv y,gv R S]) rfl rfl (fun W => zab Tryd.func13 rfl rfl _ W) (fun W hW => kC.out.chk_no _ _ _ _ _ y W kX.out kY.out kR.out kS.out kon.out)) ?_;simp only [aP,lA,lZ,lS]
  refine zag (.bool true) rfl (zaz rfl rfl rfl) ?_;simp only [aP,lA,lZ,lS]
  refine zaa (.bool true) rfl (zaq rfl rfl rfl) ?_;simp only [aP,lA,lZ,lS]
  refine zaa (.bool true) rfl (zae (.inr rfl) rfl) ?_;simp only [aP,lA,lZ,lS]
  exact zah
 refine zam rfl ?_
 intro w5 hE
 replace hx:=hx.trans hE
 clear hE
 go_wp2
 go_ret
 exact ⟨rfl,hx⟩
theorem turns_off_may (hC : Code7) {X Y R S : Nat} {f : Bool} (hX : X < top) (hY : Y < top) (hR : R < top) (hS : S < top) (hon : onB X Y f = false) (y : Nat → Nat) (hmay : mayB S = true) {T : Nat} (hT : T = Pt.nn - S) (ht : T < top) {w : World} (hK : KT w) :
  Calls Tryd.prog 5 #[qv X Y f,dgv y,gv R S] w fun e w' => e = .returned (.bool true) ∧ Ext w w':=by
 have kC:=veil hC
 have kX:=veil hX
 have kY:=veil hY
 have kR:=veil hR
 have kS:=veil hS
 have kon:=veil hon
 have kmay:=veil hmay
 have kT:=veil hT
 have kt:=veil ht
 have kK:=veil hK
 clear hK ht hT hmay hon hS hR hY hX hC
 unfold qv qc gv gc dgv dgc
 go_enter Tryd.func5,Tryd.ntmps5
 go_upto_region 1 with (fail)
 obtain ⟨hx,b0,b1,b2⟩:=blocks3 w (.cells #[.int .u64 (wd X 0),.int .u64 (wd X 1),.int .u64 (wd X 2),.int .u64 (wd X 3),.int .u64 (wd Y 0),.int .u64 (wd Y 1),.int .u64 (wd Y 2),.int .u64 (wd Y 3),.bool (f)] 40) (.cells (arrOf 32 fun i => .int .u8 (y i : Nat)) 38) (.cells #[.int .u64 (wd R 0),.int .u64 (wd R 1),.int .u64 (wd R 2),.int .u64 (wd R 3),.int .u64 (wd S 0),.int .u64 (wd S 1),.int .u64 (wd S 2),.int .u64 (wd S 3)] 26)
 generalize ((w.alloc (.cells #[.int .u64 (wd X 0),.int .u64 (wd X 1),.int .u64 (wd X 2),.int .u64 (wd X 3),.int .u64 (wd Y 0),.int .u64 (wd Y 1),.int .u64 (wd Y 2),.int .u64 (wd Y 3),.bool (f)] 40)).alloc (.cells (arrOf 32 fun i => .int .u8 (y i : Nat)) 38)).alloc (.cells #[.int .u64 (wd R 0),.int .u64 (wd R 1),.int .u64 (wd R 2),.int .u64 (wd R 3),.int .u64 (wd S 0),.int .u64 (wd S 1),.int .u64 (wd S 2),.int .u64 (wd S 3)] 26) = w1 at *
 have b0 : w1.heap[w.heap.size]? = some (.cells (qc X Y f) 40 (0,0)):=b0
 have b1 : w1.heap[w.heap.size + 1]? = some (.cells (dgc y) 38 (0,0)):=b1
 have b2 : w1.heap[w.heap.size + 1 + 1]? = some (.cells (gc R S) 26 (0,0)):=b2
 refine' zaj (m:=2) (A:=_) (by kernel_rfl) ?h1 ?h2
 case h1 =>
  refine zaa (.bool true) rfl (zaf (args:=[]) rfl rfl (fun W => zab Tryd.func6 rfl rfl _ W) (fun W hW => kC.out.up W (kK.out.call (hx.trans hW)))) ?_;simp only [aP,lA,lZ,lS]
  refine zaa (.bool true) rfl (zae (.inr rfl) rfl) ?_;simp only [aP,lA,lZ,lS]
  exact zah
 refine zam rfl ?_
 intro w2 hE
 replace b0:=hE.block b0
 replace b1:=hE.block b1
 replace b2:=hE.block b2
 replace hx:=hx.trans hE
 clear hE
 go_upto_region 2 with (fail)
 refine' zaj (m:=4) (A:=_) (by kernel_rfl) ?h2a ?h2b
 case h2a =>
  refine zaa (.pointer (some ⟨w.heap.size + 1 + 1,4,none⟩)) rfl (zad rfl rfl (fldG1 _ ·)) ?_;simp only [aP,lA,lZ,lS]
  refine zaa (nv S) rfl (zac rfl rfl b2 rfl uN rfl (iN _)) ?_;simp only [aP,lA,lZ,lS]
  refine zaa (.bool true) rfl (zaf (args:=[nv S]) rfl rfl (fun W => zab Tryd.func15 rfl rfl _ W) (fun W hW => rmay_is kmay.out kS.out W)) ?_;simp only [aP,lA,lZ,lS]
  refine zaa (.bool true) rfl (zae (.inr rfl) rfl) ?_;simp only [aP,lA,lZ,lS]
  exact zah
 refine zam rfl ?_
 intro w3 hE
 replace b0:=hE.block b0
 replace b1:=hE.block b1
 replace b2:=hE.block b2
 replace hx:=hx.trans hE
 clear hE
 go_upto_region 3 with (fail)
 refine' zaj (m:=2) (A:=_) (by kernel_rfl) ?h3a ?h3b
 case h3a =>
  refine zaa (.bool true) rfl (zae (.inl rfl) rfl) ?_;simp only [aP,lA,lZ,lS]
  refine zaa (.bool false) rfl (zaz rfl rfl rfl) ?_;simp only [aP,lA,lZ,lS]
  exact zah
 refine zam rfl ?_
 intro w4 hE
 replace b0:=hE.block b0
 replace b1:=hE.block b1
 replace b2:=hE.block b2
 replace hx:=hx.trans hE
 clear hE
 go_upto_region 5 with (fail)
 refine' zbn (m:=6) (A:=_) 8 (by kernel_rfl) (by kernel_rfl) (by kernel_rfl) ?h4a ?h4b
 case h4a =>
  refine zaa (nv Pt.nn) rfl (zaf (args:=[]) rfl rfl (fun W => zab Tryd.func17 rfl rfl _ W) (fun W hW => pN_is W)) ?_;simp only [aP,lA,lZ,lS]
  refine zaa (.pointer (some ⟨w.heap.size + 1 + 1,4,none⟩)) rfl (zad rfl rfl (fldG1 _ ·)) ?_;simp only [aP,lA,lZ,lS]
  refine zaa (nv S) rfl (zac rfl rfl b2 rfl uN rfl (iN _)) ?_;simp only [aP,lA,lZ,lS]
  refine zaa (.tuple #[nv T,.bool false]) rfl (zaf (args:=[nv Pt.nn,nv S]) rfl rfl (fun W => zab Tryd.func16 rfl rfl _ W) (fun W hW => rsubn_is kmay.out kT.out W)) ?_;simp only [aP,lA,lZ,lS]
  refine zaa (.tuple #[nv T,.bool false]) rfl (zae (.inl rfl) rfl) ?_;simp only [aP,lA,lZ,lS]
  refine zaa (nv T) rfl (zar rfl rfl rfl) ?_;simp only [aP,lA,lZ,lS]
  exact zah
 refine zdu (v:=.bool false) (vx:=.bool false) _ _ _ _ rfl rfl rfl rfl rfl rfl rfl rfl rfl rfl rfl rfl rfl rfl rfl rfl (by decide) (by kernel_rfl) (by kernel_rfl) (by kernel_rfl) (by kernel_rfl) (by kernel_rfl) (by kernel_rfl) (by kernel_rfl) rfl rfl rfl rfl rfl rfl (hzN ·) (zby rfl rfl rfl) (fun _ => zby rfl rfl rfl) (fun _ => rfl) (fun _ => rfl) (fun _ => rfl) (fun _ => rfl) (fun _ => rfl) (iN _) rfl (zbe _) ?_
 intro gn w5 hgn bn hE
 refine NoPanic.normal ?_
 replace b0:=hE.block b0
 replace b1:=hE.block b1
 replace b2:=hE.block b2
 replace hx:=hx.trans hE
 clear hE
 simp only [aP,lA,lZ,lS]
 clear hgn
 go_upto_region 6 with (fail)
 refine' zcc (m:=20) (A:=_) 20 (by kernel_rfl) (by kernel_rfl) ?h5a ?h5b
 case h5a =>
  refine zaa (.bool true) rfl (zae (.inl rfl) rfl) ?_;simp only [aP,lA,lZ,lS]
  refine zaa (.bool true) rfl (zae (.inl rfl) rfl) ?_;simp only [aP,lA,lZ,lS]
  refine zag (.bool false) rfl (zae (.inl rfl) rfl) ?_;simp only [aP,lA,lZ,lS]
  refine zag (.bool true) rfl (zaz rfl rfl rfl) ?_;simp only [aP,lA,lZ,lS]
  refine zaa (.bool true) rfl (zaq rfl rfl rfl) ?_;simp only [aP,lA,lZ,lS]
  refine zaa (.bool true) rfl (zae (.inl rfl) rfl) ?_;simp only [aP,lA,lZ,lS]
  refine zag (qv X Y f) rfl (zac rfl rfl b0 rfl Tryd.underlying40 rfl (iT _ _ _)) ?_;simp only [aP,lA,lZ,lS]
  refine zag (dgv y) rfl (zac rfl rfl b1 rfl Tryd.underlying38 rfl (iDg _)) ?_;simp only [aP,lA,lZ,lS]
  refine zag (gv R S) rfl (zac rfl rfl b2 rfl Tryd.underlying26 rfl (iSg _ _)) ?_;simp only [aP,lA,lZ,lS]
  refine zag (.bool false) rfl (zaf (args:=[qv X Y f,dgv y,gv R S]) rfl rfl (fun W => zab Tryd.func13 rfl rfl _ W) (fun W hW => kC.out.chk_no _ _ _ _ _ y W kX.out kY.out kR.out kS.out kon.out)) ?_;simp only [aP,lA,lZ,lS]
  refine zag (qv X Y f) rfl (zac rfl rfl b0 rfl Tryd.underlying40 rfl (iT _ _ _)) ?_;simp only [aP,lA,lZ,lS]
  refine zag (dgv y) rfl (zac rfl rfl b1 rfl Tryd.underlying38 rfl (iDg _)) ?_;simp only [aP,lA,lZ,lS]
  refine zag (ptrTo (w.heap.size + 1 + 1)) rfl (zad rfl rfl (fldG0 _ ·)) ?_;simp only [aP,lA,lZ,lS]
  refine zag (nv R) rfl (zac rfl rfl b2 rfl uN rfl (iN _)) ?_;simp only [aP,lA,lZ,lS]
  refine zag (nv T) rfl (zac rfl rfl bn rfl uN rfl (iN _)) ?_;simp only [aP,lA,lZ,lS]
  refine zag (gv R T) rfl (zau (vs:=[(0,nv R),(1,nv T)]) rfl rfl (fun W => bldG W _ _)) ?_;simp only [aP,lA,lZ,lS]
  refine zag (.bool false) rfl (zaf (args:=[qv X Y f,dgv y,gv R T]) rfl rfl (fun W => zab Tryd.func13 rfl rfl _ W) (fun W hW => kC.out.chk_no _ _ _ _ _ y W kX.out kY.out kR.out kt.out kon.out)) ?_;simp only [aP,lA,lZ,lS]
  refine zag (.bool true) rfl (zbs rfl rfl rfl (fun _ => by kernel_rfl) (fun _ => by kernel_rfl)) ?_;simp only [aP,lA,lZ,lS]
  refine zaa (.bool true) rfl (zaq rfl rfl rfl) ?_;simp only [aP,lA,lZ,lS]
  refine zaa (.bool true) rfl (zae (.inr rfl) rfl) ?_;simp only [aP,lA,lZ,lS]
  exact zah
 refine zbq rfl (by kernel_rfl) ?_
 intro w6 hE
 refine NoPanic.normal ?_
 replace hx:=hx.trans hE
 clear hE
 go_wp2
 go_ret
 exact ⟨rfl,hx⟩
theorem turns_on_no (hC : Code7) (p : Pt.Q) {R S : Nat} (hR : R < top) (hS : S < top) (y : Nat → Nat) (hy : ∀ j,y j < 256) (hmay : mayB S = false) (hb : false = Pt.verB p (num32 y) R S) {w : World} (hK : KT w) :
  Calls Tryd.prog 5 #[qv (Pt.pX p.1) (Pt.pY p.1) (Pt.pFar p.1),dgv y,gv R S] w fun e w' => e = .returned (.bool true) ∧ Ext w w':=by
 have kC:=veil hC
 have kR:=veil hR
 have kS:=veil hS
 have ky:=veil hy
 have kmay:=veil hmay
 have kb:=veil hb
 have kK:=veil hK
 clear hK hb hmay hy hS hR hC
 unfold qv qc gv gc dgv dgc
 go_enter Tryd.func5,Tryd.ntmps5
 go_upto_region 1 with (fail)
 obtain ⟨hx,b0,b1,b2⟩:=blocks3 w (.cells #[.int .u64 (wd (Pt.pX p.1) 0),.int .u64 (wd (Pt.pX p.1) 1),.int .u64 (wd (Pt.pX p.1) 2),.int .u64 (wd (Pt.pX p.1) 3),.int .u64 (wd (Pt.pY p.1) 0),.int .u64 (wd (Pt.pY p.1) 1),.int .u64 (wd (Pt.pY p.1) 2),.int .u64 (wd (Pt.pY p.1) 3),.bool (Pt.pFar p.1)] 40) (.cells (arrOf 32 fun i => .int .u8 (y i : Nat)) 38) (.cells #[.int .u64 (wd R 0),.int .u64 (wd R 1),.int .u64 (wd R 2),.int .u64 (wd R 3),.int .u64 (wd S 0),.int .u64 (wd S 1),.int .u64 (wd S 2),.int .u64 (wd S 3)] 26)
 generalize ((w.alloc (.cells #[.int .u64 (wd (Pt.pX p.1) 0),.int .u64 (wd (Pt.pX p.1) 1),.int .u64 (wd (Pt.pX p.1) 2),.int .u64 (wd (Pt.pX p.1) 3),.int .u64 (wd (Pt.pY p.1) 0),.int .u64 (wd (Pt.pY p.1) 1),.int .u64 (wd (Pt.pY p.1) 2),.int .u64 (wd (Pt.pY p.1) 3),.bool (Pt.pFar p.1)] 40)).alloc (.cells (arrOf 32 fun i => .int .u8 (y i : Nat)) 38)).alloc (.cells #[.int .u64 (wd R 0),.int .u64 (wd R 1),.int .u64 (wd R 2),.int .u64 (wd R 3),.int .u64 (wd S 0),.int .u64 (wd S 1),.int .u64 (wd S 2),.int .u64 (wd S 3)] 26) = w1 at *
 have b0 : w1.heap[w.heap.size]? = some (.cells (qc (Pt.pX p.1) (Pt.pY p.1) (Pt.pFar p.1)) 40 (0,0)):=b0
 have b1 : w1.heap[w.heap.size + 1]? = some (.cells (dgc y) 38 (0,0)):=b1
 have b2 : w1.heap[w.heap.size + 1 + 1]? = some (.cells (gc R S) 26 (0,0)):=b2
 refine' zaj (m:=2) (A:=_) (by kernel_rfl) ?h1 ?h2
 case h1 =>
  refine zaa (.bool true) rfl (zaf (args:=[]) rfl rfl (fun W => zab Tryd.func6 rfl rfl _ W) (fun W hW => kC.out.up W (kK.out.call (hx.trans hW)))) ?_;simp only [aP,lA,lZ,lS]
  refine zaa (.bool true) rfl (zae (.inr rfl) rfl) ?_;simp only [aP,lA,lZ,lS]
  exact zah
 refine zam rfl ?_
 intro w2 hE
 replace b0:=hE.block b0
 replace b1:=hE.block b1
 replace b2:=hE.block b2
 replace hx:=hx.trans hE
 clear hE
 go_upto_region 2 with (fail)
 refine' zaj (m:=4) (A:=_) (by kernel_rfl) ?h2a ?h2b
 case h2a =>
  refine zaa (.pointer (some ⟨w.heap.size + 1 + 1,4,none⟩)) rfl (zad rfl rfl (fldG1 _ ·)) ?_;simp only [aP,lA,lZ,lS]
  refine zaa (nv S) rfl (zac rfl rfl b2 rfl uN rfl (iN _)) ?_;simp only [aP,lA,lZ,lS]
  refine zaa (.bool false) rfl (zaf (args:=[nv S]) rfl rfl (fun W => zab Tryd.func15 rfl rfl _ W) (fun W hW => rmay_is kmay.out kS.out W)) ?_;simp only [aP,lA,lZ,lS]
  refine zaa (.bool false) rfl (zae (.inr rfl) rfl) ?_;simp only [aP,lA,lZ,lS]
  exact zah
 refine zam rfl ?_
 intro w3 hE
 replace b0:=hE.block b0
 replace b1:=hE.block b1
 replace b2:=hE.block b2
 replace hx:=hx.trans hE
 clear hE
 go_upto_region 3 with (fail)
 refine' zaj (m:=2) (A:=_) (by kernel_rfl) ?h3a ?h3b
 case h3a =>
  refine zaa (.bool false) rfl (zae (.inl rfl) rfl) ?_;simp only [aP,lA,lZ,lS]
  refine zaa (.bool true) rfl (zaz rfl rfl rfl) ?_;simp only [aP,lA,lZ,lS]
  exact zah
 refine zam rfl ?_
 intro w4 hE
 replace b0:=hE.block b0
 replace b1:=hE.block b1
 replace b2:=hE.block b2
 replace hx:=hx.trans hE
 clear hE
 go_upto_region 4 with (fail)
 refine' zbp (m:=9) (A:=_) ?h4a ?h4b
 case h4a =>
  refine zaa (.bool true) rfl (zae (.inl rfl) rfl) ?_;simp only [aP,lA,lZ,lS]
  refine zaa (.bool true) rfl (zae (.inl rfl) rfl) ?_;simp only [aP,lA,lZ,lS]
  refine zag (qv (Pt.pX p.1) (Pt.pY p.1) (Pt.pFar p.1)) rfl (zac rfl rfl b0 rfl Tryd.underlying40 rfl (iT _ _ _)) ?_;simp only [aP,lA,lZ,lS]
  refine zag (dgv y) rfl (zac rfl rfl b1 rfl Tryd.underlying38 rfl (iDg _)) ?_;simp only [aP,lA,lZ,lS]
  refine zag (gv R S) rfl (zac rfl rfl b2 rfl Tryd.underlying26 rfl (iSg _ _)) ?_;simp only [aP,lA,lZ,lS]
  refine zag (.bool false) rfl (zaf (args:=[qv (Pt.pX p.1) (Pt.pY p.1) (Pt.pFar p.1),dgv y,gv R S]) rfl rfl (fun W => zab Tryd.func13 rfl rfl _ W) (fun W hW => by rw [kb.out]; exact kC.out.chk_yes p _ _ y W kR.out kS.out ky.out)) ?_;simp only [aP,lA,lZ,lS]
  refine zag (.bool true) rfl (zaz rfl rfl rfl) ?_;simp only [aP,lA,lZ,lS]
  refine zaa (.bool true) rfl (zaq rfl rfl rfl) ?_;simp only [aP,lA,lZ,lS]
  refine zaa (.bool true) rfl (zae (.inr rfl) rfl) ?_;simp only [aP,lA,lZ,lS]
  exact zah
 refine zam rfl ?_
 intro w5 hE
 replace hx:=hx.trans hE
 clear hE
 go_wp2
 go_ret
 exact ⟨rfl,hx⟩
theorem turns_on_may (hC : Code7) (p : Pt.Q) {R S : Nat} (hR : R < top) (hS : S < top) (y : Nat → Nat) (hy : ∀ j,y j < 256) (hmay : mayB S = true) {T : Nat} (hT : T = Pt.nn - S) (ht : T < top) {b : Bool} (hb : b = Pt.verB p (num32 y) R S) (hB : b = Pt.verB p (num32 y) R T) {w : World} (hK : KT w) :
  Calls Tryd.prog 5 #[qv (Pt.pX p.1) (Pt.pY p.1) (Pt.pFar p.1),dgv y,gv R S] w fun e w' => e = .returned (.bool true) ∧ Ext w w':=by
 have kC:=veil hC
 have kR:=veil hR
 have kS:=veil hS
 have ky:=veil hy
 have kmay:=veil hmay
 have kT:=veil hT
 have kt:=veil ht
 have kb:=veil hb
 have kB:=veil hB
 have kK:=veil hK
 clear hK hB hb ht hT hmay hy hS hR hC
 unfold qv qc gv gc dgv dgc
 go_enter Tryd.func5,Tryd.ntmps5
 go_upto_region 1 with (fail)
 obtain ⟨hx,b0,b1,b2⟩:=blocks3 w (.cells #[.int .u64 (wd (Pt.pX p.1) 0),.int .u64 (wd (Pt.pX p.1) 1),.int .u64 (wd (Pt.pX p.1) 2),.int .u64 (wd (Pt.pX p.1) 3),.int .u64 (wd (Pt.pY p.1) 0),.int .u64 (wd (Pt.pY p.1) 1),.int .u64 (wd (Pt.pY p.1) 2),.int .u64 (wd (Pt.pY p.1) 3),.bool (Pt.pFar p.1)] 40) (.cells (arrOf 32 fun i => .int .u8 (y i : Nat)) 38) (.cells #[.int .u64 (wd R 0),.int .u64 (wd R 1),.int .u64 (wd R 2),.int .u64 (wd R 3),.int .u64 (wd S 0),.int .u64 (wd S 1),.int .u64 (wd S 2),.int .u64 (wd S 3)] 26)
 generalize ((w.alloc (.cells #[.int .u64 (wd (Pt.pX p.1) 0),.int .u64 (wd (Pt.pX p.1) 1),.int .u64 (wd (Pt.pX p.1) 2),.int .u64 (wd (Pt.pX p.1) 3),.int .u64 (wd (Pt.pY p.1) 0),.int .u64 (wd (Pt.pY p.1) 1),.int .u64 (wd (Pt.pY p.1) 2),.int .u64 (wd (Pt.pY p.1) 3),.bool (Pt.pFar p.1)] 40)).alloc (.cells (arrOf 32 fun i => .int .u8 (y i : Nat)) 38)).alloc (.cells #[.int .u64 (wd R 0),.int .u64 (wd R 1),.int .u64 (wd R 2),.int .u64 (wd R 3),.int .u64 (wd S 0),.int .u64 (wd S 1),.int .u64 (wd S 2),.int .u64 (wd S 3)] 26) = w1 at *
 have b0 : w1.heap[w.heap.size]? = some (.cells (qc (Pt.pX p.1) (Pt.pY p.1) (Pt.pFar p.1)) 40 (0,0)):=b0
 have b1 : w1.heap[w.heap.size + 1]? = some (.cells (dgc y) 38 (0,0)):=b1
 have b2 : w1.heap[w.heap.size + 1 + 1]? = some (.cells (gc R S) 26 (0,0)):=b2
 refine' zaj (m:=2) (A:=_) (by kernel_rfl) ?h1 ?h2
 case h1 =>
  refine zaa (.bool true) rfl (zaf (args:=[]) rfl rfl (fun W => zab Tryd.func6 rfl rfl _ W) (fun W hW => kC.out.up W (kK.out.call (hx.trans hW)))) ?_;simp only [aP,lA,lZ,lS]
  refine zaa (.bool true) rfl (zae (.inr rfl) rfl) ?_;simp only [aP,lA,lZ,lS]
  exact zah
 refine zam rfl ?_
 intro w2 hE
 replace b0:=hE.block b0
 replace b1:=hE.block b1
 replace b2:=hE.block b2
 replace hx:=hx.trans hE
 clear hE
 go_upto_region 2 with (fail)
 refine' zaj (m:=4) (A:=_) (by kernel_rfl) ?h2a ?h2b
 case h2a =>
  refine zaa (.pointer (some ⟨w.heap.size + 1 + 1,4,none⟩)) rfl (zad rfl rfl (fldG1 _ ·)) ?_;simp only [aP,lA,lZ,lS]
  refine zaa (nv S) rfl (zac rfl rfl b2 rfl uN rfl (iN _)) ?_;simp only [aP,lA,lZ,lS]
  refine zaa (.bool true) rfl (zaf (args:=[nv S]) rfl rfl (fun W => zab Tryd.func15 rfl rfl _ W) (fun W hW => rmay_is kmay.out kS.out W)) ?_;simp only [aP,lA,lZ,lS]
  refine zaa (.bool true) rfl (zae (.inr rfl) rfl) ?_;simp only [aP,lA,lZ,lS]
  exact zah
 refine zam rfl ?_
 intro w3 hE
 replace b0:=hE.block b0
 replace b1:=hE.block b1
 replace b2:=hE.block b2
 replace hx:=hx.trans hE
 clear hE
 go_upto_region 3 with (fail)
 refine' zaj (m:=2) (A:=_) (by kernel_rfl) ?h3a ?h3b
 case h3a =>
  refine zaa (.bool true) rfl (zae (.inl rfl) rfl) ?_;simp only [aP,lA,lZ,lS]
  refine zaa (.bool false) rfl (zaz rfl rfl rfl) ?_;simp only [aP,lA,lZ,lS]
  exact zah
 refine zam rfl ?_
 intro w4 hE
 replace b0:=hE.block b0
 replace b1:=hE.block b1
 replace b2:=hE.block b2
 replace hx:=hx.trans hE
 clear hE
 go_upto_region 5 with (fail)
 refine' zbn (m:=6) (A:=_) 8 (by kernel_rfl) (by kernel_rfl) (by kernel_rfl) ?h4a ?h4b
 case h4a =>
  refine zaa (nv Pt.nn) rfl (zaf (args:=[]) rfl rfl (fun W => zab Tryd.func17 rfl rfl _ W) (fun W hW => pN_is W)) ?_;simp only [aP,lA,lZ,lS]
  refine zaa (.pointer (some ⟨w.heap.size + 1 + 1,4,none⟩)) rfl (zad rfl rfl (fldG1 _ ·)) ?_;simp only [aP,lA,lZ,lS]
  refine zaa (nv S) rfl (zac rfl rfl b2 rfl uN rfl (iN _)) ?_;simp only [aP,lA,lZ,lS]
  refine zaa (.tuple #[nv T,.bool false]) rfl (zaf (args:=[nv Pt.nn,nv S]) rfl rfl (fun W => zab Tryd.func16 rfl rfl _ W) (fun W hW => rsubn_is kmay.out kT.out W)) ?_;simp only [aP,lA,lZ,lS]
  refine zaa (.tuple #[nv T,.bool false]) rfl (zae (.inl rfl) rfl) ?_;simp only [aP,lA,lZ,lS]
  refine zaa (nv T) rfl (zar rfl rfl rfl) ?_;simp only [aP,lA,lZ,lS]
  exact zah
 refine zdu (v:=.bool false) (vx:=.bool false) _ _ _ _ rfl rfl rfl rfl rfl rfl rfl rfl rfl rfl rfl rfl rfl rfl rfl rfl (by decide) (by kernel_rfl) (by kernel_rfl) (by kernel_rfl) (by kernel_rfl) (by kernel_rfl) (by kernel_rfl) (by kernel_rfl) rfl rfl rfl rfl rfl rfl (hzN ·) (zby rfl rfl rfl) (fun _ => zby rfl rfl rfl) (fun _ => rfl) (fun _ => rfl) (fun _ => rfl) (fun _ => rfl) (fun _ => rfl) (iN _) rfl (zbe _) ?_
 intro gn w5 hgn bn hE
 refine NoPanic.normal ?_
 replace b0:=hE.block b0
 replace b1:=hE.block b1
 replace b2:=hE.block b2
 replace hx:=hx.trans hE
 clear hE
 simp only [aP,lA,lZ,lS]
 clear hgn
 go_upto_region 6 with (fail)
 refine' zcc (m:=20) (A:=_) 20 (by kernel_rfl) (by kernel_rfl) ?h5a ?h5b
 case h5a =>
  refine zaa (.bool true) rfl (zae (.inl rfl) rfl) ?_;simp only [aP,lA,lZ,lS]
  refine zaa (.bool true) rfl (zae (.inl rfl) rfl) ?_;simp only [aP,lA,lZ,lS]
  refine zag (.bool false) rfl (zae (.inl rfl) rfl) ?_;simp only [aP,lA,lZ,lS]
  refine zag (.bool true) rfl (zaz rfl rfl rfl) ?_;simp only [aP,lA,lZ,lS]
  refine zaa (.bool true) rfl (zaq rfl rfl rfl) ?_;simp only [aP,lA,lZ,lS]
  refine zaa (.bool true) rfl (zae (.inl rfl) rfl) ?_;simp only [aP,lA,lZ,lS]
  refine zag (qv (Pt.pX p.1) (Pt.pY p.1) (Pt.pFar p.1)) rfl (zac rfl rfl b0 rfl Tryd.underlying40 rfl (iT _ _ _)) ?_;simp only [aP,lA,lZ,lS]
  refine zag (dgv y) rfl (zac rfl rfl b1 rfl Tryd.underlying38 rfl (iDg _)) ?_;simp only [aP,lA,lZ,lS]
  refine zag (gv R S) rfl (zac rfl rfl b2 rfl Tryd.underlying26 rfl (iSg _ _)) ?_;simp only [aP,lA,lZ,lS]
  refine zag (.bool b) rfl (zaf (args:=[qv (Pt.pX p.1) (Pt.pY p.1) (Pt.pFar p.1),dgv y,gv R S]) rfl rfl (fun W => zab Tryd.func13 rfl rfl _ W) (fun W hW => by rw [kb.out]; exact kC.out.chk_yes p _ _ y W kR.out kS.out ky.out)) ?_;simp only [aP,lA,lZ,lS]
  refine zag (qv (Pt.pX p.1) (Pt.pY p.1) (Pt.pFar p.1)) rfl (zac rfl rfl b0 rfl Tryd.underlying40 rfl (iT _ _ _)) ?_;simp only [aP,lA,lZ,lS]
  refine zag (dgv y) rfl (zac rfl rfl b1 rfl Tryd.underlying38 rfl (iDg _)) ?_;simp only [aP,lA,lZ,lS]
  refine zag (ptrTo (w.heap.size + 1 + 1)) rfl (zad rfl rfl (fldG0 _ ·)) ?_;simp only [aP,lA,lZ,lS]
  refine zag (nv R) rfl (zac rfl rfl b2 rfl uN rfl (iN _)) ?_;simp only [aP,lA,lZ,lS]
  refine zag (nv T) rfl (zac rfl rfl bn rfl uN rfl (iN _)) ?_;simp only [aP,lA,lZ,lS]
  refine zag (gv R T) rfl (zau (vs:=[(0,nv R),(1,nv T)]) rfl rfl (fun W => bldG W _ _)) ?_;simp only [aP,lA,lZ,lS]
  refine zag (.bool b) rfl (zaf (args:=[qv (Pt.pX p.1) (Pt.pY p.1) (Pt.pFar p.1),dgv y,gv R T]) rfl rfl (fun W => zab Tryd.func13 rfl rfl _ W) (fun W hW => by rw [kB.out]; exact kC.out.chk_yes p _ _ y W kR.out kt.out ky.out)) ?_;simp only [aP,lA,lZ,lS]
  refine zag (.bool true) rfl (made_eqb rfl rfl rfl (eqbG _ _) eqbR) ?_;simp only [aP,lA,lZ,lS]
  refine zaa (.bool true) rfl (zaq rfl rfl rfl) ?_;simp only [aP,lA,lZ,lS]
  refine zaa (.bool true) rfl (zae (.inr rfl) rfl) ?_;simp only [aP,lA,lZ,lS]
  exact zah
 refine zbq rfl (by kernel_rfl) ?_
 intro w6 hE
 refine NoPanic.normal ?_
 replace hx:=hx.trans hE
 clear hE
 go_wp2
 go_ret
 exact ⟨rfl,hx⟩
theorem holds_walk (hC : Code7) (hA : CodeD) (D : Nat) (hD : D < top) (y : Nat → Nat) (hy : ∀ j,y j < 256) (w : World) (hK : KT w) :
  Calls Tryd.prog 4 #[nv D,dgv y] w fun e w' => e = .returned (.bool true) ∧ Ext w w':=by
 cases hm : mayB D with
 | false => exact holds_bad hC hD hm y hK
 | true =>
  obtain ⟨s,hE⟩:=ends_ex D (num32 y % Pt.nn) 16
  cases ho : sigOf D (num32 y) (outN D (num32 y % Pt.nn) s) with
  | none => exact holds_none hC hm y hy hE ho rfl hK
  | some o =>
   obtain ⟨r,z⟩:=o
   exact holds_some hC hm y hy hE hA ho rfl (mul_base_near hm) (sigOf_holds hm (fun k hk => (zgz D _ s k hk).1) ho) hK
theorem turns_walk (hC : Code7) (X Y : Nat) (f : Bool) (hX : X < top) (hY : Y < top) (y : Nat → Nat) (hy : ∀ j,y j < 256) (R S : Nat) (hR : R < top) (hS : S < top) (w : World) (hK : KT w) :
  Calls Tryd.prog 5 #[qv X Y f,dgv y,gv R S] w fun e w' => e = .returned (.bool true) ∧ Ext w w':=by
 have ht : Pt.nn - S < top:=Nat.lt_of_le_of_lt (Nat.sub_le _ _) zcs
 cases hon : onB X Y f with
 | false =>
  cases hm : mayB S with
  | false => exact turns_off_no hC hX hY hR hS hon y hm hK
  | true => exact turns_off_may hC hX hY hR hS hon y hm rfl ht hK
 | true =>
  obtain ⟨q,rfl,rfl,rfl⟩:=onB_some hon
  cases hm : mayB S with
  | false => exact turns_on_no hC q hR hS y hy hm (ver_may hm).symm hK
  | true => exact turns_on_may hC q hR hS y hy hm rfl ht rfl (ver_turn q (num32 y) R hm rfl rfl) hK
end Go.Proofs.YtmfjigcdhijkjaaDoor
