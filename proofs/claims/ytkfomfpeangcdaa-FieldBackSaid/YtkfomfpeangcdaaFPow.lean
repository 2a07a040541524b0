/-
  (*field.Field).Pow: a power.
-/
import Derived.Test.YtkfomfpeangcdaaFCut
import Derived.Deep.CutRange
namespace Go.Proofs.Ytkfomfpeangcdaa
open Go.RowKit

theorem lt_bitLen (X : Nat) : X < 2 ^ bitLen X := (bitLen_spec X).1
theorem bitLen_le' {X n : Nat} (hX : X < 2 ^ n) : bitLen X ≤ n := by
  unfold bitLen
  split
  · omega
  · rename_i h
    have := (Nat.log2_lt h).2 hX
    omega
theorem bitLen_le {X : Nat} (hX : X < top) : bitLen X ≤ 256 := bitLen_le' (by rw [← top_two]; exact hX)
/-- A number as Pow keeps it: times 2^256. -/
def mt (V M : Nat) : Nat := V * top % M
theorem mt_lt {V M : Nat} (h : 0 < M) : mt V M < M := Nat.mod_lt _ h
theorem mt_mul (A B M : Nat) : mt (A * B) M * top % M = mt A M * mt B M % M := by
  unfold mt
  rw [Nat.mod_mul_mod, ← Nat.mul_mod, Nat.mul_assoc (A * B), Nat.mul_mul_mul_comm]
theorem mt_in {M : Nat} {N : Int} {Q : Nat} (hK : Fok M N Q) (X : Nat) : X * top * top % M = X * Q % M := by
  rw [hK.q, Nat.mul_mod_mod, top8_eq, Nat.mul_assoc]
theorem mt_one {M : Nat} {N : Int} {Q : Nat} (hK : Fok M N Q) : 1 * top * top % M = Q % M := by
  have := mt_in hK 1
  rwa [Nat.one_mul Q] at this
/-- What Pow holds above place n. -/
def pm (X E M n : Nat) : Nat := mt (X ^ (E / 2 ^ n)) M
theorem up_step (E n : Nat) : E / 2 ^ n = 2 * (E / 2 ^ (n + 1)) + E / 2 ^ n % 2 := by
  rw [Nat.pow_succ, ← Nat.div_div_eq_div_mul]; omega
theorem pm_twice {X E n : Nat} (h : E / 2 ^ n % 2 = 0) : X ^ (E / 2 ^ n) = X ^ (E / 2 ^ (n + 1)) * X ^ (E / 2 ^ (n + 1)) := by
  rw [up_step E n, h, Nat.add_zero, Nat.two_mul, Nat.pow_add]
theorem pm_more {X E n : Nat} (h : E / 2 ^ n % 2 = 1) : X ^ (E / 2 ^ n) = X ^ (E / 2 ^ (n + 1)) * X ^ (E / 2 ^ (n + 1)) * X := by
  rw [up_step E n, h, Nat.pow_succ, Nat.two_mul, Nat.pow_add]
theorem pm_start {X E M n : Nat} (h : E < 2 ^ n) : pm X E M n = mt 1 M := by
  unfold pm; rw [Nat.div_eq_of_lt h, Nat.pow_zero]
theorem pm_end (X E M : Nat) : pm X E M 0 * top % M = pm X E M 0 * top % M := rfl
theorem pm_zero (X E M : Nat) : X ^ E * top % M = pm X E M 0 % M := by
  unfold pm mt; rw [Nat.pow_zero, Nat.div_one, Nat.mod_mod]

theorem kmm (b A B M : Nat) (N : Int) (Q Z : Nat) (hM : 0 < M) (hZ : mt (A * B) M = Z) (hK : Fok M N Q) (w : World) (hF : Fb w b M N Q) :
    Calls Try.prog 31 #[.pointer (some ⟨b, 0, none⟩), .agg #[.int .u64 (wd (mt A M * mt B M) 0), .int .u64 (wd (mt A M * mt B M) 1), .int .u64 (wd (mt A M * mt B M) 2), .int .u64 (wd (mt A M * mt B M) 3), .int .u64 (wd (mt A M * mt B M) 4), .int .u64 (wd (mt A M * mt B M) 5), .int .u64 (wd (mt A M * mt B M) 6), .int .u64 (wd (mt A M * mt B M) 7)]] w fun e w' => e = .returned (.agg #[.int .u64 (wd (Z) 0), .int .u64 (wd (Z) 1), .int .u64 (wd (Z) 2), .int .u64 (wd (Z) 3)]) ∧ Below w.heap.size w w' := by
  have ha := mt_lt (V := A) hM
  have hb := mt_lt (V := B) hM
  have ht := hK.mt
  exact kshr b _ M N Q (mt (A * B) M) Z (mt_mul A B M) (mul_ltm (by omega) hb) (mul_lt8 (by omega) (by omega)) (by rw [Nat.mod_eq_of_lt (mt_lt hM)]; exact hZ) hK w hF

theorem kpp (b A B P R M : Nat) (N : Int) (Q Z : Nat) (hP : P = mt A M) (hR : R = mt B M) (hM : 0 < M) (hZ : Z = mt (A * B) M) (hK : Fok M N Q) (w : World) (hF : Fb w b M N Q) :
    Calls Try.prog 31 #[.pointer (some ⟨b, 0, none⟩), .agg #[.int .u64 (wd (P * R) 0), .int .u64 (wd (P * R) 1), .int .u64 (wd (P * R) 2), .int .u64 (wd (P * R) 3), .int .u64 (wd (P * R) 4), .int .u64 (wd (P * R) 5), .int .u64 (wd (P * R) 6), .int .u64 (wd (P * R) 7)]] w fun e w' => e = .returned (.agg #[.int .u64 (wd (Z) 0), .int .u64 (wd (Z) 1), .int .u64 (wd (Z) 2), .int .u64 (wd (Z) 3)]) ∧ Below w.heap.size w w' := by
  subst hP; subst hR; exact kmm b A B M N Q Z hM hZ.symm hK w hF
theorem via_key {P G : Prop} (h : P → G) (k : P) : G := h k
/-- The rows ahead of the power's block: the base's block s. -/
structure Pq (w wr : World) (b M : Nat) (N : Int) (Q s E S : Nat) : Prop where
  er : wr.rowIs (w.heap.size + 1) 24 4 (fun j => .int .u64 (wd E j))
  rr : wr.rowIs (w.heap.size + 1 + 1) 24 4 (fun _ => .int .u64 0)
  sr : wr.rowIs s 24 4 (fun j => .int .u64 (wd S j))
  fr : Fb wr b M N Q
  be : Below w.heap.size w wr
  hs : w.heap.size + 1 + 1 < s
theorem Pq.call {w wr w' : World} {b M : Nat} {N : Int} {Q s E S : Nat} (h : Pq w wr b M N Q s E S) (hb : Below wr.heap.size wr w') : Pq w w' b M N Q s E S :=
  ⟨row_below h.er hb h.er.lt, row_below h.rr hb h.rr.lt, row_below h.sr hb h.sr.lt, h.fr.call hb, h.be.trans (hb.mono h.be.size), h.hs⟩
theorem new_row {w w' : World} (hb : Below (w.alloc (.cells #[.int .u64 0, .int .u64 0, .int .u64 0, .int .u64 0] 24)).heap.size (w.alloc (.cells #[.int .u64 0, .int .u64 0, .int .u64 0, .int .u64 0] 24)) w') : w'.rowIs w.heap.size 24 4 (fun _ => .int .u64 0) :=
  row_below (row_new (n := 4) (f := fun _ => Value.int .u64 0) rfl rfl (arr4 fun _ => Value.int .u64 0)) hb (by simp)
theorem new_row_drew {w w' : World} (hb : Below (w.alloc (.cells #[.int .u64 0, .int .u64 0, .int .u64 0, .int .u64 0] 24)).drew.heap.size (w.alloc (.cells #[.int .u64 0, .int .u64 0, .int .u64 0, .int .u64 0] 24)).drew w') : w'.rowIs w.heap.size 24 4 (fun _ => .int .u64 0) :=
  row_below ((row_new (n := 4) (f := fun _ => Value.int .u64 0) rfl rfl (arr4 fun _ => Value.int .u64 0)).drew) hb (by simp)
section
variable {w w' : World} {b t n : Nat} {f : Nat → Value} {o : Obj}
theorem row_call (h : w.rowIs b t n f) (hb : Below w.heap.size w w') : w'.rowIs b t n f := row_below h hb h.lt
theorem row_call_d (h : w.rowIs b t n f) (hb : Below w.drew.heap.size w.drew w') : w'.rowIs b t n f := row_below h.drew hb h.lt
end
/-- The rows ahead of the base's block. -/
structure Po (w wr : World) (b M : Nat) (N : Int) (Q E : Nat) : Prop where
  er : wr.rowIs (w.heap.size + 1) 24 4 (fun j => .int .u64 (wd E j))
  rr : wr.rowIs (w.heap.size + 1 + 1) 24 4 (fun _ => .int .u64 0)
  fr : Fb wr b M N Q
  be : Below w.heap.size w wr
section
variable {w wr w' : World} {b M : Nat} {N : Int} {Q E : Nat} {o : Obj}
theorem Po.alloc (h : Po w wr b M N Q E) (o : Obj) : Po w (wr.alloc o) b M N Q E := ⟨h.er.alloc _, h.rr.alloc _, h.fr.alloc _, h.be.alloc h.be.size _⟩
theorem Po.drew (h : Po w wr b M N Q E) : Po w wr.drew b M N Q E := ⟨h.er.drew, h.rr.drew, h.fr, h.be.drew⟩
theorem Po.call (h : Po w wr b M N Q E) (hb : Below wr.heap.size wr w') : Po w w' b M N Q E :=
  ⟨row_below h.er hb h.er.lt, row_below h.rr hb h.rr.lt, h.fr.call hb, h.be.trans (hb.mono h.be.size)⟩
theorem Po.call_d (h : Po w wr b M N Q E) (hb : Below wr.drew.heap.size wr.drew w') : Po w w' b M N Q E := h.drew.call hb
theorem Po.call_a (h : Po w wr b M N Q E) (hb : Below (wr.alloc o).heap.size (wr.alloc o) w') : Po w w' b M N Q E := (h.alloc o).call hb
theorem Po.call_ad (h : Po w wr b M N Q E) (hb : Below (wr.alloc o).drew.heap.size (wr.alloc o).drew w') : Po w w' b M N Q E := (h.alloc o).drew.call hb
theorem Po.call_da (h : Po w wr b M N Q E) (hb : Below (wr.drew.alloc o).heap.size (wr.drew.alloc o) w') : Po w w' b M N Q E := (h.drew.alloc o).call hb
theorem pq_new (h : Po w wr b M N Q E) (S : Nat) : Pq w (wr.alloc (.cells #[.int .u64 (wd (S) 0), .int .u64 (wd (S) 1), .int .u64 (wd (S) 2), .int .u64 (wd (S) 3)] 24)) b M N Q wr.heap.size E S :=
  ⟨h.er.alloc _, h.rr.alloc _, row_new (n := 4) rfl rfl (arr4 fun j => .int .u64 (wd S j)), h.fr.alloc _, h.be.alloc h.be.size _, h.rr.lt⟩
theorem pq_put {s : Nat} {f : Nat → Value} (h : Po w wr b M N Q E) (ht : wr.rowIs s 24 4 f) (hs : w.heap.size + 1 + 1 < s) (hb : b < w.heap.size) (S : Nat) :
    Pq w ((((wr.setCell ⟨s, 0, none⟩ (.int .u64 (wd S 0))).setCell ⟨s, 1, none⟩ (.int .u64 (wd S 1))).setCell ⟨s, 2, none⟩ (.int .u64 (wd S 2))).setCell ⟨s, 3, none⟩ (.int .u64 (wd S 3))) b M N Q s E S :=
  ⟨row_far4 h.er (by omega) _ _ _ _, row_far4 h.rr (by omega) _ _ _ _, put4 ht fun j => .int .u64 (wd S j), row_far4 h.fr (by omega) _ _ _ _, below_put4 h.be (by omega) _ _ _ _, hs⟩
end
/-- The rows of the walk: the power's block p, the base's block s. -/
structure Pr (w wr : World) (b M : Nat) (N : Int) (Q p s E P S : Nat) : Prop where
  er : wr.rowIs (w.heap.size + 1) 24 4 (fun j => .int .u64 (wd E j))
  rr : wr.rowIs (w.heap.size + 1 + 1) 24 4 (fun _ => .int .u64 0)
  sr : wr.rowIs s 24 4 (fun j => .int .u64 (wd S j))
  pr : wr.rowIs p 24 4 (fun j => .int .u64 (wd P j))
  fr : Fb wr b M N Q
  be : Below w.heap.size w wr
theorem Pr.call {w wr w' : World} {b M : Nat} {N : Int} {Q p s E P S : Nat} (h : Pr w wr b M N Q p s E P S) (hb : Below wr.heap.size wr w') : Pr w w' b M N Q p s E P S :=
  ⟨row_below h.er hb h.er.lt, row_below h.rr hb h.rr.lt, row_below h.sr hb h.sr.lt, row_below h.pr hb h.pr.lt, h.fr.call hb, h.be.trans (hb.mono h.be.size)⟩
theorem Pr.put {w wr : World} {b M : Nat} {N : Int} {Q p s E P S : Nat} (h : Pr w wr b M N Q p s E P S) (hs : w.heap.size + 1 + 1 < s) (hsp : s < p) (hb : b < w.heap.size) (K : Nat) :
    Pr w ((((wr.setCell ⟨p, 0, none⟩ (.int .u64 (wd K 0))).setCell ⟨p, 1, none⟩ (.int .u64 (wd K 1))).setCell ⟨p, 2, none⟩ (.int .u64 (wd K 2))).setCell ⟨p, 3, none⟩ (.int .u64 (wd K 3))) b M N Q p s E K S :=
  ⟨row_far4 h.er (by omega) _ _ _ _, row_far4 h.rr (by omega) _ _ _ _, row_far4 h.sr (by omega) _ _ _ _, put4 h.pr fun j => .int .u64 (wd K j), row_far4 h.fr (by omega) _ _ _ _, below_put4 h.be (by omega) _ _ _ _⟩

set_option maxRecDepth 100000 in
set_option maxHeartbeats 8000000 in
theorem fpow_calls (b X E M : Nat) (N : Int) (Q Z : Nat) (hX : X < top) (hE : E < top) (hK : Fok M N Q) (hZ : X ^ E % M = Z) (w : World) (hF : Fb w b M N Q) :
    Calls Try.prog 23 #[.pointer (some ⟨b, 0, none⟩), .agg #[.int .u64 (wd (X) 0), .int .u64 (wd (X) 1), .int .u64 (wd (X) 2), .int .u64 (wd (X) 3)], .agg #[.int .u64 (wd (E) 0), .int .u64 (wd (E) 1), .int .u64 (wd (E) 2), .int .u64 (wd (E) 3)]] w fun e w' => e = .returned (.agg #[.int .u64 (wd (Z) 0), .int .u64 (wd (Z) 1), .int .u64 (wd (Z) 2), .int .u64 (wd (Z) 3)]) ∧ Below w.heap.size w w' := by
  have hM0 : 0 < M := by have := hK.m2; omega
  have hQ := hK.qm
  have hMt := hK.mt
  have hQt : Q < top := by omega
  have hL := lt_bitLen E
  have hL2 := bitLen_le hE
  obtain ⟨ln, hln⟩ : ∃ ln, ln = bitLen E := ⟨_, rfl⟩
  rw [← hln] at hL hL2
  obtain ⟨S, hS⟩ : ∃ S, S = mt X M := ⟨_, rfl⟩
  obtain ⟨P0, hP0⟩ : ∃ P0, P0 = mt 1 M := ⟨_, rfl⟩
  have hSM : S < M := by rw [hS]; exact mt_lt hM0
  have hPM : P0 < M := by rw [hP0]; exact mt_lt hM0
  have KM := veil (fun W => kmul X Q _ rfl hX hQt W)
  have KW := veil (fun W => wide_calls Q hQt W)
  have KS := veil (fun W (h : Fb W b M N Q) => kshr b (X * Q) M N Q (X * top) S (mt_in hK X) (mul_ltm hX hQ) (mul_lt8 hX hQt) (by rw [hS]; rfl) hK W h)
  have KP := veil (fun W (h : Fb W b M N Q) => kshr b Q M N Q (1 * top) P0 (mt_one hK) (Nat.lt_of_lt_of_le hQ (Nat.le_mul_of_pos_right _ top_pos)) (Nat.lt_of_lt_of_le hQt (by rw [top8_eq]; exact Nat.le_mul_of_pos_right _ top_pos)) (by rw [hP0]; rfl) hK W h)
  have KL := veil (fun W => klen E (ln : Int) (by rw [hln]) hE W)
  have HS := veil hS
  have HP0 := veil hP0
  have HL := veil hL
  have HZ := veil hZ
  clear hX hE hQ hMt hQt hL hS hP0 hZ hln hSM hPM
  have HK := veil hK
  have HM0 := veil hM0
  clear hK hM0
  have hA : (((w.alloc (.cells #[.int .u64 (wd (X) 0), .int .u64 (wd (X) 1), .int .u64 (wd (X) 2), .int .u64 (wd (X) 3)] 24)).alloc (.cells #[.int .u64 (wd (E) 0), .int .u64 (wd (E) 1), .int .u64 (wd (E) 2), .int .u64 (wd (E) 3)] 24)).alloc (.cells #[.int .u64 0, .int .u64 0, .int .u64 0, .int .u64 0] 24)).rowIs w.heap.size 24 4 (fun j => .int .u64 (wd X j)) := ((row_new (n := 4) (by simp) rfl (arr4 fun j => .int .u64 (wd X j))).alloc _).alloc _
  have hE : (((w.alloc (.cells #[.int .u64 (wd (X) 0), .int .u64 (wd (X) 1), .int .u64 (wd (X) 2), .int .u64 (wd (X) 3)] 24)).alloc (.cells #[.int .u64 (wd (E) 0), .int .u64 (wd (E) 1), .int .u64 (wd (E) 2), .int .u64 (wd (E) 3)] 24)).alloc (.cells #[.int .u64 0, .int .u64 0, .int .u64 0, .int .u64 0] 24)).rowIs (w.heap.size + 1) 24 4 (fun j => .int .u64 (wd E j)) := (row_new (n := 4) (by simp) rfl (arr4 fun j => .int .u64 (wd E j))).alloc _
  have hR : (((w.alloc (.cells #[.int .u64 (wd (X) 0), .int .u64 (wd (X) 1), .int .u64 (wd (X) 2), .int .u64 (wd (X) 3)] 24)).alloc (.cells #[.int .u64 (wd (E) 0), .int .u64 (wd (E) 1), .int .u64 (wd (E) 2), .int .u64 (wd (E) 3)] 24)).alloc (.cells #[.int .u64 0, .int .u64 0, .int .u64 0, .int .u64 0] 24)).rowIs (w.heap.size + 1 + 1) 24 4 (fun _ => .int .u64 0) := row_new (n := 4) (by simp) rfl (arr4 fun _ => .int .u64 0)
  have hbel : Below w.heap.size w (((w.alloc (.cells #[.int .u64 (wd (X) 0), .int .u64 (wd (X) 1), .int .u64 (wd (X) 2), .int .u64 (wd (X) 3)] 24)).alloc (.cells #[.int .u64 (wd (E) 0), .int .u64 (wd (E) 1), .int .u64 (wd (E) 2), .int .u64 (wd (E) 3)] 24)).alloc (.cells #[.int .u64 0, .int .u64 0, .int .u64 0, .int .u64 0] 24)) := (((Below.refl _ _).alloc (by simp) _).alloc (by simp) _).alloc (by simp; omega) _
  have hFr : Fb (((w.alloc (.cells #[.int .u64 (wd (X) 0), .int .u64 (wd (X) 1), .int .u64 (wd (X) 2), .int .u64 (wd (X) 3)] 24)).alloc (.cells #[.int .u64 (wd (E) 0), .int .u64 (wd (E) 1), .int .u64 (wd (E) 2), .int .u64 (wd (E) 3)] 24)).alloc (.cells #[.int .u64 0, .int .u64 0, .int .u64 0, .int .u64 0] 24)) b M N Q := (((hF).alloc _).alloc _).alloc _
  have hbs := hF.lt
  clear hF
  go_enter Try.func23, Try.ntmps23
  go_wp2_with fail
  generalize (((w.alloc (.cells #[.int .u64 (wd (X) 0), .int .u64 (wd (X) 1), .int .u64 (wd (X) 2), .int .u64 (wd (X) 3)] 24)).alloc (.cells #[.int .u64 (wd (E) 0), .int .u64 (wd (E) 1), .int .u64 (wd (E) 2), .int .u64 (wd (E) 3)] 24)).alloc (.cells #[.int .u64 0, .int .u64 0, .int .u64 0, .int .u64 0] 24)) = w0 at *
  apply via_key
  · intro key
    obtain ⟨a0, a1, a2, a3⟩ := row_c4 hA
    obtain ⟨s0, s1, s2, s3⟩ := hFr.sq
    have hT := hR
    have hO : Po w w0 b M N Q E := ⟨hE, hR, hFr, hbel⟩
    have zf := hFr.lt
    have za := hA.lt
    have zt := hT.lt
    have zr := hR.lt
    obtain ⟨t0, t1, t2, t3⟩ := row_c4 hT
    obtain ⟨ft0, ft1, ft2, ft3⟩ := row_f4 hT
    go_region_with (first
      | (go_at_call 32; refine (KM.out _).mono ?_; rintro e w1 ⟨rfl, hb1⟩; (first | with_reducible (replace hT := new_row hb1) | with_reducible (replace hT := new_row_drew hb1) | with_reducible (replace hT := row_call hT hb1) | with_reducible (replace hT := row_call_d hT hb1)); (first | with_reducible (replace hO := hO.call hb1) | with_reducible (replace hO := hO.call_d hb1) | with_reducible (replace hO := hO.call_a hb1) | with_reducible (replace hO := hO.call_ad hb1) | with_reducible (replace hO := hO.call_da hb1)); have zf := hO.fr.lt; have zt := hT.lt; have zr := hO.rr.lt; obtain ⟨s0, s1, s2, s3⟩ := hO.fr.sq; obtain ⟨t0, t1, t2, t3⟩ := row_c4 hT; obtain ⟨ft0, ft1, ft2, ft3⟩ := row_f4 hT)
      | (go_at_call 31; refine (KS.out _ (by first | with_reducible exact hO.fr | exact hO.fr | exact hO.fr.alloc _)).mono ?_; rintro e w2 ⟨rfl, hb2⟩; (first | with_reducible (replace hT := new_row hb2) | with_reducible (replace hT := new_row_drew hb2) | with_reducible (replace hT := row_call hT hb2) | with_reducible (replace hT := row_call_d hT hb2)); (first | with_reducible (replace hO := hO.call hb2) | with_reducible (replace hO := hO.call_d hb2) | with_reducible (replace hO := hO.call_a hb2) | with_reducible (replace hO := hO.call_ad hb2) | with_reducible (replace hO := hO.call_da hb2)); have zf := hO.fr.lt; have zt := hT.lt; have zr := hO.rr.lt; obtain ⟨s0, s1, s2, s3⟩ := hO.fr.sq; obtain ⟨t0, t1, t2, t3⟩ := row_c4 hT; obtain ⟨ft0, ft1, ft2, ft3⟩ := row_f4 hT))
    have hB := pq_new hO S
    generalize w2.heap.size = s at hB ⊢
    generalize w2.alloc (.cells #[.int .u64 (wd (S) 0), .int .u64 (wd (S) 1), .int .u64 (wd (S) 2), .int .u64 (wd (S) 3)] 24) = v at hB ⊢
    revert hB
    revert v
    revert s
    exact key
    all_goals first
      | with_reducible exact key _ _ (pq_new hO S)
      | (have hB := pq_put hO hT (by omega) hbs S; with_reducible exact key _ _ hB)
  · clear hA hE hR hFr hbel
    intro s v hB
    have hs := hB.hs
    obtain ⟨s0, s1, s2, s3⟩ := hB.fr.sq
    go_wp2_with fail
    refine (KW.out _).mono ?_
    rintro e w3 ⟨rfl, hb3⟩
    replace hB := hB.call hb3
    clear hb3 s0 s1 s2 s3
    go_wp2_with fail
    refine (KP.out _ hB.fr).mono ?_
    rintro e w4 ⟨rfl, hb4⟩
    replace hB := hB.call hb4
    clear hb4
    go_upto_region 3 with (fail)
    have hC : Pr w (w4.alloc (.cells #[.int .u64 (wd (P0) 0), .int .u64 (wd (P0) 1), .int .u64 (wd (P0) 2), .int .u64 (wd (P0) 3)] 24)) b M N Q w4.heap.size s E P0 S := ⟨hB.er.alloc _, hB.rr.alloc _, hB.sr.alloc _, row_new (n := 4) rfl rfl (arr4 fun j => .int .u64 (wd P0 j)), hB.fr.alloc _, hB.be.alloc hB.be.size _⟩
    have hsp := hB.sr.lt
    clear hB
    generalize w4.heap.size = p at *
    generalize w4.alloc (.cells #[.int .u64 (wd (P0) 0), .int .u64 (wd (P0) 1), .int .u64 (wd (P0) 2), .int .u64 (wd (P0) 3)] 24) = v1 at *
    obtain ⟨e0, e1, e2, e3⟩ := row_c4 hC.er
    go_wp2_with fail
    refine (KL.out _).mono ?_
    rintro e w5 ⟨rfl, hb5⟩
    replace hC := hC.call hb5
    clear hb5 e0 e1 e2 e3 KM KW KS KP KL
    go_wp2_with fail
    go_loopw [9] (fun i wr => ∃ (k P : Nat), k ≤ ln ∧ i = .int .i64 ((k : Int) - 1) ∧ Hid (P = pm X E M k) ∧ Pr w wr b M N Q p s E P S)
      (fun i _ => (intOf i + 1).toNat)
    case atStart => exact ⟨ln, P0, by omega, rfl, veil (by rw [pm_start HL.out]; exact HP0.out), hC⟩
    case round =>
      clear hC
      obtain ⟨k, P, hk, hi, hP, hC⟩ := hrel
      have hPt : P < top := by
        have := HK.out.mt
        have := mt_lt (V := X ^ (E / 2 ^ k)) HM0.out
        have e := hP.out
        unfold pm at e
        omega
      cases k with
      | zero =>
        subst hi
        have K1 := veil (fun W => wide_calls P hPt W)
        have K2 := veil (fun W (h : Fb W b M N Q) => kshr b P M N Q (X ^ E) Z (by rw [hP.out, pm_zero]) (Nat.lt_of_lt_of_le (show P < M by rw [hP.out]; exact mt_lt HM0.out) (Nat.le_mul_of_pos_right _ top_pos)) (Nat.lt_of_lt_of_le hPt (by rw [top8_eq]; exact Nat.le_mul_of_pos_right _ top_pos)) HZ.out HK.out W h)
        obtain ⟨p0, p1, p2, p3⟩ := row_c4 hC.pr
        clear hPt
        go_wp2_with fail
        refine (K1.out _).mono ?_
        rintro e w6 ⟨rfl, hb6⟩
        replace hC := hC.call hb6
        clear hb6 p0 p1 p2 p3
        go_wp2_with fail
        refine (K2.out _ hC.fr).mono ?_
        rintro e w7 ⟨rfl, hb7⟩
        replace hC := hC.call hb7
        clear hb7
        obtain ⟨d0, d1, d2, d3⟩ := row_c4 hC.rr
        obtain ⟨f0, f1, f2, f3⟩ := row_f4 hC.rr
        go_wp2
        refine bodyPost_ret (results_cell_row rfl _ _ (w.heap.size + 1 + 1) 24 #[.int .u64 (wd (Z) 0), .int .u64 (wd (Z) 1), .int .u64 (wd (Z) 2), .int .u64 (wd (Z) 3)] (0, 0) _ rfl (blk4 (put4 hC.rr fun j => .int .u64 (wd Z j))) Try.underlying24 rfl (by kernel_rfl)) rfl ⟨rfl, below_put4 hC.be (by omega) _ _ _ _⟩
      | succ k =>
        obtain rfl : _ = Value.int .i64 (k : Int) := hi.trans (by congr 1; omega)
        clear hi
        have hk256 : k < 256 := by omega
        have hk1 : (k : Int) ≤ 255 := by omega
        obtain ⟨P2, hP2⟩ : ∃ P2, P2 = mt (X ^ (E / 2 ^ (k + 1)) * X ^ (E / 2 ^ (k + 1))) M := ⟨_, rfl⟩
        have hP2t : P2 < top := by
          have := HK.out.mt
          have := mt_lt (V := X ^ (E / 2 ^ (k + 1)) * X ^ (E / 2 ^ (k + 1))) HM0.out
          omega
        have hSt : S < top := by
          have := HK.out.mt
          have := mt_lt (V := X) HM0.out
          have := HS.out
          omega
        have K1 := veil (fun W => kmul P P _ rfl hPt hPt W)
        have K2 := veil (fun W (h : Fb W b M N Q) => kpp b _ _ P P M N Q P2 hP.out hP.out HM0.out hP2 HK.out W h)
        have KB := fun W => bit_in E k hk256 W
        clear hk256
        have HP2 := veil hP2
        obtain ⟨p0, p1, p2, p3⟩ := row_c4 hC.pr
        clear hPt hP2
        go_wp2_with fail
        refine (K1.out _).mono ?_
        rintro e w6 ⟨rfl, hb6⟩
        replace hC := hC.call hb6
        clear hb6 p0 p1 p2 p3
        go_wp2_with fail
        refine (K2.out _ hC.fr).mono ?_
        rintro e w7 ⟨rfl, hb7⟩
        replace hC := hC.call hb7
        clear hb7
        obtain ⟨p0, p1, p2, p3⟩ := row_c4 hC.pr
        obtain ⟨f0, f1, f2, f3⟩ := row_f4 hC.pr
        go_upto_region 7 with (fail)
        replace hC := hC.put hs hsp hbs P2
        clear p0 p1 p2 p3 f0 f1 f2 f3
        generalize ((((w7.setCell ⟨p, 0, none⟩ (.int .u64 (wd P2 0))).setCell ⟨p, 1, none⟩ (.int .u64 (wd P2 1))).setCell ⟨p, 2, none⟩ (.int .u64 (wd P2 2))).setCell ⟨p, 3, none⟩ (.int .u64 (wd P2 3))) = v2 at *
        obtain ⟨e0, e1, e2, e3⟩ := row_c4 hC.er
        by_cases hbit : E / 2 ^ k % 2 = 1
        · have K3 := veil (fun W => kmul P2 S _ rfl hP2t hSt W)
          obtain ⟨P3, hP3⟩ : ∃ P3, P3 = mt (X ^ (E / 2 ^ (k + 1)) * X ^ (E / 2 ^ (k + 1)) * X) M := ⟨_, rfl⟩
          have K4 := veil (fun W (h : Fb W b M N Q) => kpp b _ _ P2 S M N Q P3 HP2.out HS.out HM0.out hP3 HK.out W h)
          have hPk : P3 = pm X E M k := by rw [hP3]; unfold pm; rw [pm_more hbit]
          have HPk := veil hPk
          have KB2 := veil (show ∀ W, Calls Try.prog 27 #[.agg #[.int .u64 (wd (E) 0), .int .u64 (wd (E) 1), .int .u64 (wd (E) 2), .int .u64 (wd (E) 3)], .int .i64 (k : Int)] W fun e w' => e = .returned (.bool true) ∧ Below W.heap.size W w' from fun W => by have h := KB W; rwa [show bit E k = true by unfold bit; rw [hbit]; rfl] at h)
          clear KB hbit hP3 hPk hP2t hSt
          go_wp2_with fail
          refine (KB2.out _).mono ?_
          rintro e w8 ⟨rfl, hb8⟩
          replace hC := hC.call hb8
          clear hb8 e0 e1 e2 e3
          obtain ⟨p0, p1, p2, p3⟩ := row_c4 hC.pr
          obtain ⟨s0, s1, s2, s3⟩ := row_c4 hC.sr
          go_wp2_with fail
          refine (K3.out _).mono ?_
          rintro e w9 ⟨rfl, hb9⟩
          replace hC := hC.call hb9
          clear hb9 p0 p1 p2 p3 s0 s1 s2 s3
          go_wp2_with fail
          refine (K4.out _ hC.fr).mono ?_
          rintro e w10 ⟨rfl, hb10⟩
          replace hC := hC.call hb10
          clear hb10
          obtain ⟨p0, p1, p2, p3⟩ := row_c4 hC.pr
          obtain ⟨f0, f1, f2, f3⟩ := row_f4 hC.pr
          go_wp2
          replace hC := hC.put hs hsp hbs P3
          go_roundw
          case rel => exact ⟨k, P3, by omega, by go_num, HPk, hC⟩
          case measure => simp [intOf]
        · have hbit0 : E / 2 ^ k % 2 = 0 := by omega
          have hPk : P2 = pm X E M k := by rw [HP2.out]; unfold pm; rw [pm_twice hbit0]
          have HPk := veil hPk
          have KB2 := veil (show ∀ W, Calls Try.prog 27 #[.agg #[.int .u64 (wd (E) 0), .int .u64 (wd (E) 1), .int .u64 (wd (E) 2), .int .u64 (wd (E) 3)], .int .i64 (k : Int)] W fun e w' => e = .returned (.bool false) ∧ Below W.heap.size W w' from fun W => by have h := KB W; rwa [show bit E k = false by unfold bit; rw [hbit0]; rfl] at h)
          clear KB hbit hbit0 hPk hP2t hSt
          go_wp2_with fail
          refine (KB2.out _).mono ?_
          rintro e w8 ⟨rfl, hb8⟩
          replace hC := hC.call hb8
          clear hb8 e0 e1 e2 e3
          go_wp2
          go_roundw
          case rel => exact ⟨k, P2, by omega, by go_num, HPk, hC⟩
          case measure => simp [intOf]
end Go.Proofs.Ytkfomfpeangcdaa
