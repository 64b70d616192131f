/- BoxNumbers of the statements: whatever the numbers are, the call returns true and each argument reads as it did; no condition. -/
import Derived.Test.YtnhnnkeakoakfaaBx3
import Derived.Test.YtnhnnkeakoakfaaK4
import Derived.Test.YtnhnnkeakoakfaaPO2
import Derived.Test.YtnhnnkeakoakfaaTB7
import Derived.Test.YtnhnnkeakoakfaaBxMath
import Derived.Test.YtnhnnkeakoakfaaAP8
import Derived.Test.YtnhnnkeakoakfaaTail
import Derived.ChangeKeysEq
import Derived.Test.YtnhnnkeakoakfaaYO8
import Derived.Test.YtnhnnkeakoakfaaTK5
import Derived.Test.YtnhnnkeakoakfaaApp
import Derived.Test.YtnhnnkeakoakfaaRows
import Derived.WalkKit
import Derived.ProofKit
import Derived.OpenShut
namespace Go.Proofs.Ytnhnnkeakoakfaa
open Go Go.RowKit
open M

def I64 (a : Int) : Prop := -9223372036854775808 ≤ a ∧ a ≤ 9223372036854775807
theorem b_down (a : Int) (w : World) : Calls Try.prog 31 #[.int .i64 a] w fun r w' => r = .returned (.int .i64 (dn a)) ∧ w = w' := by
  unfold dn
  go_enter Try.func31, Try.ntmps31
  go_wp2
  go_ret
  exact ⟨rfl, rfl⟩
theorem b_up (a : Int) (h : I64 a) (w : World) : Calls Try.prog 32 #[.int .i64 a] w fun r w' => r = .returned (.int .i64 (up a)) ∧ w = w' := by
  have bd := dn_bd h.1 h.2
  have ha := and_one a
  obtain ⟨m, hm⟩ : ∃ m, bits .and .i64 a 65535 = m := ⟨_, rfl⟩
  obtain ⟨d, hd⟩ : ∃ d, dn a = d := ⟨_, rfl⟩
  have DN := Lib.hid (fun w => b_down a w)
  rw [hd] at DN bd
  rw [hm] at ha
  by_cases h0 : m = 0
  · have HU : Hid (up a = d) := Lib.hid (by rw [← hd]; unfold up dn; rw [if_pos (by omega)])
    clear ha hd h
    go_enter Try.func32, Try.ntmps32
    go_wp2_with fail
    refine (DN.out _).mono ?_
    rintro r w1 ⟨rfl, rfl⟩
    go_wp2
    go_ret
    exact ⟨by rw [HU.out]; rfl, rfl⟩
  · have HU : Hid (up a = d + 1) := Lib.hid (by rw [← hd]; unfold up dn; rw [if_neg (by omega)])
    have b1 : -140737488355328 ≤ d := bd.1
    have b2 : d ≤ 140737488355327 := bd.2
    clear ha hd h bd
    go_enter Try.func32, Try.ntmps32
    go_wp2_with fail
    refine (DN.out _).mono ?_
    rintro r w1 ⟨rfl, rfl⟩
    go_wp2
    go_ret
    exact ⟨by rw [HU.out]; rfl, rfl⟩
theorem r14_up (a : Int) (h : I64 a) (w : World) : Calls Try.prog 33 #[.int .i64 a] w fun r w' => r = .returned (.int .i64 (up a)) ∧ w = w' := by
  have bd := dn_bd h.1 h.2
  obtain ⟨b1, b2⟩ := bd
  by_cases h0 : a % 65536 = 0
  · have HU : Hid (up a = a / 65536) := Lib.hid (by unfold up; rw [if_pos h0])
    obtain ⟨d, hd⟩ : ∃ d, a / 65536 = d := ⟨_, rfl⟩
    have e : a = d * 65536 := by omega
    unfold dn at b1 b2
    rw [hd] at HU b1 b2
    clear h hd h0
    go_enter Try.func33, Try.ntmps33
    go_wp2
    go_ret
    exact ⟨by rw [HU.out]; rfl, rfl⟩
  · have HU : Hid (up a = a / 65536 + 1) := Lib.hid (by unfold up; rw [if_neg h0])
    unfold dn at b1 b2
    have e : ¬ a / 65536 * 65536 = a := by omega
    clear h h0
    go_enter Try.func33, Try.ntmps33
    go_wp2
    go_ret
    exact ⟨by rw [HU.out]; rfl, rfl⟩

end Go.Proofs.Ytnhnnkeakoakfaa

namespace Go.Proofs.Ytnhnnkeakoakfaa
open Go Go.RowKit
open M

/-- The places of the first n polys. -/
def ptsN (ys : List Po) : Nat → List Pt
  | 0 => []
  | n + 1 => ptsN ys n ++ (po ys n).ps
def lsP (e : Option (Pt × Pt)) : Pt := match e with | none => ⟨0, 0⟩ | some (a, _) => a
def gsP (e : Option (Pt × Pt)) : Pt := match e with | none => ⟨0, 0⟩ | some (_, b) => b
def smP (e : Option (Pt × Pt)) : Bool := match e with | none => false | some _ => true
theorem ends1_smP (e : Option (Pt × Pt)) (p : Pt) : smP (ends1 e p) = true := by rcases e with _ | ⟨a, b⟩ <;> rfl
theorem has_set_ne {w : World} {g k : Nat} {cs : Array Value} {t : TypeId} (h : Has w g cs t) (hne : g ≠ k) (j : Nat) (u : Value) : Has (w.setCell ⟨k, j, none⟩ u) g cs t := has_grown h (grownBy_set (World.grownBy.refl _ _) _ _) hne
/-- What the program holds of the places so far. -/
structure EV (w0 : World) (g : Nat) (e : Option (Pt × Pt)) (wr : World) : Prop where
  k1 : Has wr g (pCells (lsP e)) 36
  k2 : Has wr (g + 1) (pCells (gsP e)) 36
  below : Below w0.heap.size w0 wr
  lo : w0.heap.size ≤ g
theorem EV.later {w0 wr w' : World} {g : Nat} {e : Option (Pt × Pt)} (h : EV w0 g e wr) (hb : Below wr.heap.size wr w') : EV w0 g e w' :=
  ⟨h.k1.below hb h.k1.lt, h.k2.below hb h.k2.lt, h.below.trans (hb.mono h.below.size), h.lo⟩
theorem EV.put {w0 wr : World} {g : Nat} {e : Option (Pt × Pt)} (h : EV w0 g e wr) (e' : Option (Pt × Pt)) :
    EV w0 g e' ((((wr.setCell ⟨g, 0, none⟩ (.int .i64 (lsP e').x)).setCell ⟨g, 1, none⟩ (.int .i64 (lsP e').y)).setCell ⟨g + 1, 0, none⟩ (.int .i64 (gsP e').x)).setCell ⟨g + 1, 1, none⟩ (.int .i64 (gsP e').y)) := by
  have hl := h.lo
  refine ⟨?_, ?_, ((((h.below.setCell (show w0.heap.size ≤ g from hl) _).setCell (show w0.heap.size ≤ g from hl) _).setCell (show w0.heap.size ≤ g + 1 by omega) _).setCell (show w0.heap.size ≤ g + 1 by omega) _), hl⟩
  · have := has_set (has_set h.k1 0 (.int .i64 (lsP e').x)) 1 (.int .i64 (lsP e').y)
    refine has_set_ne (has_set_ne ?_ (by omega) _ _) (by omega) _ _
    simpa using this
  · have h1 : Has ((wr.setCell ⟨g, 0, none⟩ (.int .i64 (lsP e').x)).setCell ⟨g, 1, none⟩ (.int .i64 (lsP e').y)) (g + 1) (pCells (gsP e)) 36 := has_set_ne (has_set_ne h.k2 (by omega) _ _) (by omega) _ _
    have := has_set (has_set h1 0 (.int .i64 (gsP e').x)) 1 (.int .i64 (gsP e').y)
    simpa using this

def preP (e : Option (Pt × Pt)) (p : Pt) : Pt × Pt := match e with | none => (p, p) | some q => q
theorem ends1_pre (e : Option (Pt × Pt)) (p a b : Pt) (h : preP e p = (a, b)) : ends1 e p = some (⟨minI a.x p.x, minI a.y p.y⟩, ⟨maxI b.x p.x, maxI b.y p.y⟩) := by
  rcases e with _ | ⟨c, d⟩
  · simp only [preP, Prod.mk.injEq] at h
    obtain ⟨rfl, rfl⟩ := h
    simp [ends1, minI, maxI]
  · simp only [preP, Prod.mk.injEq] at h
    obtain ⟨rfl, rfl⟩ := h
    rfl
theorem take_pt {ps : List Pt} {k : Nat} (h : k < ps.length) : ps.take (k + 1) = ps.take k ++ [pt ps k] := by
  rw [List.take_succ_eq_append_getElem h]
  unfold pt
  simp [List.getD, h]
set_option maxHeartbeats 4000000 in
theorem b_ends {v : Value} {ys : List Po} {w : World} (h : Ysl w v ys) :
    Calls Try.prog 30 #[v] w fun r w' => r = .returned (.tuple #[.agg (pCells (lsP (endsP (ptsN ys ys.length)))), .agg (pCells (gsP (endsP (ptsN ys ys.length)))), .bool (smP (endsP (ptsN ys ys.length)))]) ∧ Below w.heap.size w w' := by
  obtain ⟨W, hW⟩ : ∃ W, (w.alloc (.cells #[.int .i64 0, .int .i64 0] 36)).alloc (.cells #[.int .i64 0, .int .i64 0] 36) = W := ⟨_, rfl⟩
  obtain ⟨ha, hr, hb0⟩ := has_old hW
  obtain ⟨B, hB⟩ : ∃ B, w.heap.size = B := ⟨_, rfl⟩
  rw [hB] at ha hr
  have E0 : Hid (EV w B none W) := Lib.hid ⟨ha, hr, hb0, by omega⟩
  obtain ⟨N, hN⟩ : ∃ N, ys.length = N := ⟨_, rfl⟩
  obtain ⟨ao, cap, ev⟩ : ∃ ao cap, v = .slice ao N cap := by obtain ⟨ao, cap, e, _⟩ := h; rw [hN] at e; exact ⟨_, _, e⟩
  subst ev
  rw [hN]
  have HS := Lib.hid h
  have HW := Lib.hid hW
  have hN1 : N ≤ 1000 := by obtain ⟨_, _, _, hf, _⟩ := h; omega
  have HN1 := Lib.hid hN1
  clear h ha hr hb0 hW hN hN1
  go_enter Try.func30, Try.ntmps30
  go_upto_region 1 with fail
  rw [HW.out]
  clear hB
  go_wp2_with fail
  go_loopw [11, 4] (fun i s wr => ∃ n : Nat, n ≤ N ∧ i = .int .i64 n ∧ s = .bool (smP (endsP (ptsN ys n))) ∧ EV w B (endsP (ptsN ys n)) wr) (fun i _ _ => N - (intOf i).toNat)
  case atStart => exact ⟨0, by omega, rfl, rfl, E0.out⟩
  case round =>
    clear E0
    obtain ⟨n, hn, rfl, rfl, hk⟩ := hrel
    have o0 : (N : Int) ≤ 1000 := by have := HN1.out; omega
    have HK := Lib.hid hk
    by_cases hlt : n < N
    · obtain ⟨g, o, e1, r0, l0⟩ := HS.out.row (by omega)
      subst e1
      have hb := hk.below
      have r := r0.below hb (by omega)
      have hsl := r0.sl n (by omega)
      obtain ⟨y, hy⟩ : ∃ y, po ys n = y := ⟨_, rfl⟩
      have c0 := r.c0 n (by omega)
      have c1 := r.c1 n (by omega)
      have HPN : Hid (ptsN ys (n + 1) = ptsN ys n ++ y.ps) := Lib.hid (by rw [← hy]; rfl)
      rw [hy] at c0 c1 hsl
      obtain ⟨c, vy, ps⟩ := y
      simp only at c0 c1 hsl HPN
      obtain ⟨K, hK⟩ : ∃ K, ps.length = K := ⟨_, rfl⟩
      obtain ⟨aoy, capy, evy⟩ : ∃ ao cap, vy = .slice ao K cap := by obtain ⟨ao, cap, hv, _⟩ := hsl; rw [hK] at hv; exact ⟨_, _, hv⟩
      subst evy
      obtain ⟨V, hV⟩ : ∃ V, wr.alloc (.cells #[.bool c, .slice aoy K capy] 34) = V := ⟨_, rfl⟩
      obtain ⟨gp, hgp⟩ : ∃ g, wr.heap.size = g := ⟨_, rfl⟩
      have bV : Below wr.heap.size wr V := by rw [← hV]; exact (Below.refl _ _).alloc (Nat.le_refl _) _
      have kp : Has V gp #[.bool c, .slice aoy K capy] 34 := by rw [← hV]; exact has_new hgp
      have KV := Lib.hid (HK.out.later bV)
      have SV := Lib.hid hsl
      have HV := Lib.hid hV
      have KPX := Lib.hid kp
      have HKL := Lib.hid hK
      obtain ⟨Q, hQ⟩ : ∃ Q, ptsN ys n = Q := ⟨_, rfl⟩
      rw [hQ] at KV HPN
      have HQ := Lib.hid hQ
      have o3 : (n : Int) < N := by omega
      have o4 : n < N := hlt
      clear r r0 l0 hy hb hk hsl bV hV kp hK hQ
      go_upto_region 4 with fail
      rw [HV.out]
      clear hgp c0 c1
      have x0 := KPX.out.cell 0 _ rfl
      have x1 := KPX.out.cell 1 _ rfl
      go_wp2_with fail
      clear x0 x1
      go_loopw [18, 4] (fun i s wk => ∃ k : Nat, k ≤ K ∧ i = .int .i64 k ∧ s = .bool (smP (endsP (Q ++ ps.take k))) ∧ EV w B (endsP (Q ++ ps.take k)) wk) (fun i _ _ => K - (intOf i).toNat)
      case atStart =>
        have e : Q ++ ps.take 0 = Q := by simp
        exact ⟨0, by omega, rfl, by rw [e, ← HQ.out], by rw [e]; exact KV.out⟩
      case round =>
        obtain ⟨k, hk, rfl, rfl, hE⟩ := hrel
        have HE := Lib.hid hE
        by_cases hkl : k < K
        · obtain ⟨gq, oq, eq, rp, -⟩ := (SV.out.below hE.below (Nat.le_refl _)).row (by omega)
          subst eq
          obtain ⟨E, hEe⟩ : ∃ E, endsP (Q ++ ps.take k) = E := ⟨_, rfl⟩
          have HNX : Hid (endsP (Q ++ ps.take (k + 1)) = ends1 E (pt ps k)) := Lib.hid (by rw [take_pt (by rw [HKL.out]; exact hkl), ← List.append_assoc, endsP_snoc, hEe])
          have c0 := rp.c0 k (by rw [HKL.out]; exact hkl)
          have c1 := rp.c1 k (by rw [HKL.out]; exact hkl)
          obtain ⟨q, hq⟩ : ∃ q, pt ps k = q := ⟨_, rfl⟩
          rw [hq] at c0 c1 HNX
          obtain ⟨px, py⟩ := q
          simp only at c0 c1
          obtain ⟨ga, hga⟩ : ∃ g, wr.heap.size = g := ⟨_, rfl⟩
          obtain ⟨V2, hV2⟩ : ∃ V, wr.alloc (.cells #[.int .i64 px, .int .i64 py] 36) = V := ⟨_, rfl⟩
          have bV2 : Below wr.heap.size wr V2 := by rw [← hV2]; exact (Below.refl _ _).alloc (Nat.le_refl _) _
          have kq : Has V2 ga #[.int .i64 px, .int .i64 py] 36 := by rw [← hV2]; exact has_new hga
          have hlt1 : B + 1 < ga := by rw [← hga]; exact hE.k2.lt
          rw [hEe] at hE HE
          have HE2 := Lib.hid (HE.out.later bV2)
          have KQ := Lib.hid kq
          have HV2 := Lib.hid hV2
          have HEe := Lib.hid hEe
          have HLT := Lib.hid hlt1
          have o5 : (k : Int) < K := by omega
          have o6 : (K : Int) ≤ 8796093022208 := by have := SV.out.few; have := HKL.out; omega
          clear hE HE hq bV2 kq hV2 hEe rp hlt1
          go_upto_region 7 with fail
          rw [HV2.out]
          clear hga c0 c1
          obtain ⟨sm, hsm⟩ : ∃ s, smP (endsP (Q ++ ps.take k)) = s := ⟨_, rfl⟩
          rw [hsm]
          have HSM := Lib.hid hsm
          clear hsm
          go_upto_if 23 with fail
          go_cut [4] (fun s wx => s = .bool true ∧ ∃ a b : Pt, preP E ⟨px, py⟩ = (a, b) ∧ EV w B (some (a, b)) wx ∧ Has wx ga #[.int .i64 px, .int .i64 py] 36)
          case first =>
            have a0 := KQ.out.cell 0 _ rfl
            have a1 := KQ.out.cell 1 _ rfl
            rcases E with _ | ⟨a, b⟩
            · obtain rfl : sm = false := by rw [← HSM.out, HEe.out]; rfl
              have hk1 := HE2.out.k1
              have hk2 := HE2.out.k2
              have p0 : V2.cell? ⟨B, 0, none⟩ = some (.int .i64 0) := hk1.cell 0 _ rfl
              have p1 : V2.cell? ⟨B, 1, none⟩ = some (.int .i64 0) := hk1.cell 1 _ rfl
              have q0 : V2.cell? ⟨B + 1, 0, none⟩ = some (.int .i64 0) := hk2.cell 0 _ rfl
              have q1 : V2.cell? ⟨B + 1, 1, none⟩ = some (.int .i64 0) := hk2.cell 1 _ rfl
              have fz := has_fro hk1
              have fz2 := has_fro hk2
              have R0 := Lib.hid (HE2.out.put (some (⟨px, py⟩, ⟨px, py⟩)))
              have n1 : ga ≠ B := by have := HLT.out; omega
              have n2 : ga ≠ B + 1 := by have := HLT.out; omega
              clear hk1 hk2
              go_upto_region 8 with fail
              go_region
              go_wp2
              go_meet
              exact ⟨rfl, ⟨px, py⟩, ⟨px, py⟩, rfl, R0.out.later (below_drew (Below.refl _ _)), has_set_ne (has_set_ne (has_set_ne (has_set_ne KQ.out n1 _ _) n1 _ _) n2 _ _) n2 _ _⟩
            · obtain rfl : sm = true := by rw [← HSM.out, HEe.out]; rfl
              go_wp2
              go_meet
              exact ⟨rfl, a, b, rfl, HE2.out, KQ.out⟩
          case rest =>
            obtain ⟨rfl, a, b, hab, hE, hq⟩ := hcut
            rename World => X
            have HE3 := Lib.hid hE
            have n1 : ga ≠ B := by have := HLT.out; omega
            have n2 : ga ≠ B + 1 := by have := HLT.out; omega
            have e1 := ends1_pre E ⟨px, py⟩ a b hab
            obtain ⟨ax, ay⟩ := a
            obtain ⟨bx, by'⟩ := b
            obtain ⟨m0, hm0⟩ : ∃ m, (if px < ax then px else ax) = m := ⟨_, rfl⟩
            obtain ⟨m1, hm1⟩ : ∃ m, (if py < ay then py else ay) = m := ⟨_, rfl⟩
            obtain ⟨m2, hm2⟩ : ∃ m, (if bx < px then px else bx) = m := ⟨_, rfl⟩
            obtain ⟨m3, hm3⟩ : ∃ m, (if by' < py then py else by') = m := ⟨_, rfl⟩
            have e2 : ends1 E ⟨px, py⟩ = some (⟨m0, m1⟩, ⟨m2, m3⟩) := by rw [e1, ← hm0, ← hm1, ← hm2, ← hm3]; rfl
            have HE4 := Lib.hid (hE.put (some (⟨m0, m1⟩, ⟨m2, m3⟩)))
            have hn0 : min ax px = m0 := by rw [← hm0]; split <;> omega
            have hn1 : min ay py = m1 := by rw [← hm1]; split <;> omega
            have hn2 : max bx px = m2 := by rw [← hm2]; split <;> omega
            have hn3 : max by' py = m3 := by rw [← hm3]; split <;> omega
            clear hm0 hm1 hm2 hm3
            have HN4 := Lib.hid (HNX.out.trans e2)
            have a0 := hq.cell 0 _ rfl
            have a1 := hq.cell 1 _ rfl
            have p0 : X.cell? ⟨B, 0, none⟩ = some (.int .i64 ax) := hE.k1.cell 0 _ rfl
            have p1 : X.cell? ⟨B, 1, none⟩ = some (.int .i64 ay) := hE.k1.cell 1 _ rfl
            have q0 : X.cell? ⟨B + 1, 0, none⟩ = some (.int .i64 bx) := hE.k2.cell 0 _ rfl
            have q1 : X.cell? ⟨B + 1, 1, none⟩ = some (.int .i64 by') := hE.k2.cell 1 _ rfl
            have fz := has_fro hE.k1
            have fz2 := has_fro hE.k2
            clear hE hq e1 e2 hab
            go_wp2_with fail
            go_roundw
            case rel => exact ⟨k + 1, by omega, by go_num, by rw [HN4.out]; rfl, by rw [HN4.out]; exact HE4.out⟩
            case measure => simp [intOf]; omega
        · obtain rfl : k = K := by omega
          have o5 : ¬ (k : Int) < k := by omega
          have R1 : Hid (EV w B (endsP (ptsN ys (n + 1))) _) := Lib.hid (by have := HE.out; rw [List.take_of_length_le (show ps.length ≤ k by rw [HKL.out]; exact Nat.le_refl _)] at this; rw [HPN.out]; exact this)
          have R2 : Hid (smP (endsP (Q ++ ps.take k)) = smP (endsP (ptsN ys (n + 1)))) := Lib.hid (by rw [HPN.out, List.take_of_length_le (show ps.length ≤ k by rw [HKL.out]; exact Nat.le_refl _)])
          clear hE
          go_wp2
          go_roundw
          case rel => exact ⟨n + 1, by omega, by go_num, by rw [← R2.out], R1.out⟩
          case measure => simp [intOf]; omega
    · obtain rfl : n = N := by omega
      have o3 : ¬ (n : Int) < n := by omega
      obtain ⟨E, hE⟩ : ∃ E, endsP (ptsN ys n) = E := ⟨_, rfl⟩
      rw [hE] at HK hk
      have HEE := Lib.hid hE
      have p0 := hk.k1.cell 0 _ rfl
      have p1 := hk.k1.cell 1 _ rfl
      have q0 := hk.k2.cell 0 _ rfl
      have q1 := hk.k2.cell 1 _ rfl
      have fz := has_fro hk.k1
      have fz2 := has_fro hk.k2
      clear hk hE
      go_upto_region 13 with fail
      obtain ⟨ea, hea⟩ : ∃ x, lsP E = x := ⟨_, rfl⟩
      obtain ⟨eb, heb⟩ : ∃ x, gsP E = x := ⟨_, rfl⟩
      have HEA := Lib.hid hea
      have HEB := Lib.hid heb
      rw [hea] at p0 p1
      rw [heb] at q0 q1
      obtain ⟨ax, ay⟩ := ea
      obtain ⟨bx, by'⟩ := eb
      clear hea heb
      go_region
      have R0 : EV w B E ((((wr.setCell ⟨B, 0, none⟩ (.int .i64 ax)).setCell ⟨B, 1, none⟩ (.int .i64 ay)).setCell ⟨B + 1, 0, none⟩ (.int .i64 bx)).setCell ⟨B + 1, 1, none⟩ (.int .i64 by')) := by
        have := HK.out.put E
        rw [HEA.out, HEB.out] at this
        exact this
      obtain ⟨X, hX⟩ : ∃ X, ((((wr.setCell ⟨B, 0, none⟩ (.int .i64 ax)).setCell ⟨B, 1, none⟩ (.int .i64 ay)).setCell ⟨B + 1, 0, none⟩ (.int .i64 bx)).setCell ⟨B + 1, 1, none⟩ (.int .i64 by')).drew = X := ⟨_, rfl⟩
      have R1 : Hid (EV w B E X) := Lib.hid (by rw [← hX]; exact R0.later (below_drew (Below.refl _ _)))
      rw [hX]
      clear p0 p1 q0 q1 fz fz2 R0 hX
      have r1 := R1.out.k1
      have r2 := R1.out.k2
      rw [HEA.out] at r1
      rw [HEB.out] at r2
      have p0 := r1.cell 0 _ rfl
      have p1 := r1.cell 1 _ rfl
      have q0 := r2.cell 0 _ rfl
      have q1 := r2.cell 1 _ rfl
      clear r1 r2
      go_wp2
      refine bodyPost_ret (v := .tuple #[.agg #[.int .i64 ax, .int .i64 ay], .agg #[.int .i64 bx, .int .i64 by'], .bool (smP (endsP (ptsN ys n)))]) (by simp [results, Try.results30, go_sem, p0, p1, q0, q1]) rfl ⟨?_, R1.out.below⟩
      rw [HEE.out, HEA.out, HEB.out]

end Go.Proofs.Ytnhnnkeakoakfaa

namespace Go.Proofs.Ytnhnnkeakoakfaa
open Go Go.RowKit
open M

def PI (ps : List Pt) : Prop := ∀ p ∈ ps, I64 p.x ∧ I64 p.y
theorem PI.gs {ps : List Pt} (h : PI ps) : I64 (gsP (endsP ps)).x ∧ I64 (gsP (endsP ps)).y := by
  rcases e : endsP ps with _ | ⟨a, b⟩
  · simp [gsP, I64]
  · obtain ⟨_, _, _, ⟨p3, m3, e3⟩, ⟨p4, m4, e4⟩⟩ := ends_all ps a b e
    have h3 := (h p3 m3).1
    have h4 := (h p4 m4).2
    rw [e3] at h3
    rw [e4] at h4
    exact ⟨h3, h4⟩
set_option maxHeartbeats 2000000 in
theorem b_of {v : Value} {ys : List Po} {w : World} (h : Ysl w v ys) (hp : PI (ptsN ys ys.length)) :
    Calls Try.prog 11 #[v] w fun r w' => r = .returned (.agg (bCells (boxP (ptsN ys ys.length)))) ∧ Below w.heap.size w w' := by
  obtain ⟨W, hW⟩ : ∃ W, w.alloc (.cells #[.int .i64 0, .int .i64 0, .int .i64 0, .int .i64 0] 23) = W := ⟨_, rfl⟩
  obtain ⟨B, hB⟩ : ∃ B, w.heap.size = B := ⟨_, rfl⟩
  have hr : Has W B #[.int .i64 0, .int .i64 0, .int .i64 0, .int .i64 0] 23 := by rw [← hW]; exact has_new hB
  have hb0 : Below w.heap.size w W := by rw [← hW]; exact (Below.refl _ _).alloc (Nat.le_refl _) _
  have EN := Lib.hid (b_ends (h.below hb0))
  have GI := Lib.hid hp.gs
  have BX : Hid (boxP (ptsN ys ys.length) = boxE (endsP (ptsN ys ys.length))) := Lib.hid rfl
  obtain ⟨E, hE⟩ : ∃ E, endsP (ptsN ys ys.length) = E := ⟨_, rfl⟩
  rw [hE] at EN GI BX
  have HW := Lib.hid hW
  have HB0 := Lib.hid hb0
  have HR := Lib.hid hr
  obtain ⟨ao, n, cap, rfl⟩ : ∃ ao n cap, v = .slice ao n cap := by obtain ⟨ao, cap, e, _⟩ := h; exact ⟨_, _, _, e⟩
  obtain ⟨a, ha⟩ : ∃ a, lsP E = a := ⟨_, rfl⟩
  obtain ⟨b, hb⟩ : ∃ b, gsP E = b := ⟨_, rfl⟩
  obtain ⟨sm, hsm⟩ : ∃ s, smP E = s := ⟨_, rfl⟩
  rw [ha, hb, hsm] at EN
  rw [hb] at GI
  have BX2 : Hid (boxP (ptsN ys ys.length) = if sm = true then ⟨dn a.x, dn a.y, up b.x, up b.y⟩ else zeroB) := Lib.hid (by
    rw [BX.out]
    rcases E with _ | ⟨c, d⟩
    · have : sm = false := by rw [← hsm]; rfl
      subst this; rfl
    · have : sm = true := by rw [← hsm]; rfl
      have e1 : c = a := ha
      have e2 : d = b := hb
      subst this e1 e2; rfl)
  obtain ⟨R, hR⟩ : ∃ R, boxP (ptsN ys ys.length) = R := ⟨_, rfl⟩
  rw [hR] at BX2 ⊢
  obtain ⟨ax, ay⟩ := a
  obtain ⟨bx, by'⟩ := b
  simp only at BX2
  have HBe := Lib.hid hB
  clear h hp hW hr hb0 hE ha hb hsm hR BX
  go_enter Try.func11, Try.ntmps11
  go_upto_region 1 with fail
  rw [HW.out]
  clear hB
  go_wp2_with fail
  refine EN.out.mono ?_
  rintro r w1 ⟨rfl, hq⟩
  have hr := HR.out.below hq HR.out.lt
  have B1 := Lib.hid (HB0.out.trans (hq.mono HB0.out.size))
  obtain ⟨V, hV⟩ : ∃ V, (w1.alloc (.cells #[.int .i64 ax, .int .i64 ay] 36)).alloc (.cells #[.int .i64 bx, .int .i64 by'] 36) = V := ⟨_, rfl⟩
  obtain ⟨ka, kb, kbl⟩ := has_old hV
  obtain ⟨G, hG⟩ : ∃ G, w1.heap.size = G := ⟨_, rfl⟩
  rw [hG] at ka kb
  have B2 := Lib.hid (B1.out.trans (kbl.mono B1.out.size))
  have HR2 := Lib.hid (hr.below kbl hr.lt)
  have KA := Lib.hid ka
  have KB := Lib.hid kb
  have HV := Lib.hid hV
  clear hq hr ka kb kbl hV
  go_upto_region 2 with fail
  rw [HV.out]
  clear hG
  have a0 := KA.out.cell 0 _ rfl
  have a1 := KA.out.cell 1 _ rfl
  have b0 := KB.out.cell 0 _ rfl
  have b1 := KB.out.cell 1 _ rfl
  have r0 := HR2.out.cell 0 _ rfl
  have r1 := HR2.out.cell 1 _ rfl
  have r2 := HR2.out.cell 2 _ rfl
  have r3 := HR2.out.cell 3 _ rfl
  have fz := has_fro HR2.out
  cases sm
  · go_wp2
    refine bodyPost_ret (v := .agg #[.int .i64 0, .int .i64 0, .int .i64 0, .int .i64 0]) (by simp [results, Try.results11, go_sem, r0, r1, r2, r3]) rfl ⟨by rw [BX2.out]; rfl, ?_⟩
    repeat (first | exact B2.out | refine Below.setCell ?_ (show w.heap.size ≤ B by have := HBe.out; omega) _)
  · go_upto_region 4 with fail
    refine wp_region_draws_tail 13 (by kernel_rfl) (by kernel_rfl) (by kernel_rfl) (by kernel_rfl) ?_
    simp only [List.take_succ_cons, List.take_zero, List.drop_succ_cons, List.drop_zero]
    repeat (go_big_quiet_step (first | (go_at_call 31; exact quiet1 (b_down _ _)) | (go_at_call_of 32 bx; exact quiet1 (b_up bx GI.out.1 _)) | (go_at_call_of 32 by'; exact quiet1 (b_up by' GI.out.2 _))))
    refine wpQuiet_nil ?_
    rintro _ ⟨nq, rfl⟩
    obtain ⟨X, hX⟩ : ∃ X, V.drewN nq = X := ⟨_, rfl⟩
    have HX := Lib.hid (show Has X B #[.int .i64 0, .int .i64 0, .int .i64 0, .int .i64 0] 23 by rw [← hX]; exact HR2.out)
    have B3 := Lib.hid (show Below w.heap.size w X by rw [← hX]; exact below_drewN B2.out _)
    rw [hX]
    clear r0 r1 r2 r3 fz a0 a1 b0 b1 hX
    have r0 := HX.out.cell 0 _ rfl
    have r1 := HX.out.cell 1 _ rfl
    have r2 := HX.out.cell 2 _ rfl
    have r3 := HX.out.cell 3 _ rfl
    have fz := has_fro HX.out
    go_wp2
    refine bodyPost_ret (v := .agg #[.int .i64 (dn ax), .int .i64 (dn ay), .int .i64 (up bx), .int .i64 (up by')]) (by simp [results, Try.results11, go_sem, r0, r1, r2, r3]) rfl ⟨by rw [BX2.out]; rfl, ?_⟩
    repeat (first | exact B3.out | refine Below.setCell ?_ (show w.heap.size ≤ B by have := HBe.out; omega) _)

/-- What the reference holds of the places so far. -/
structure RV (w0 : World) (B : Nat) (e : Option (Pt × Pt)) (wr : World) : Prop where
  k0 : Has wr B #[.int .i64 0, .int .i64 0, .int .i64 0, .int .i64 0] 23
  k1 : Has wr (B + 1) (bCells (boxE e)) 23
  below : Below w0.heap.size w0 wr
  lo : w0.heap.size ≤ B
theorem RV.later {w0 wr w' : World} {g : Nat} {e : Option (Pt × Pt)} (h : RV w0 g e wr) (hb : Below wr.heap.size wr w') : RV w0 g e w' :=
  ⟨h.k0.below hb h.k0.lt, h.k1.below hb h.k1.lt, h.below.trans (hb.mono h.below.size), h.lo⟩
/-- The box's block behind a store. -/
theorem box_put {wr : World} {g : Nat} {cs : Array Value} {b : Bo} (hs : cs.size = 4) (h : Has wr g cs 23) :
    Has ((((wr.setCell ⟨g, 0, none⟩ (.int .i64 b.x0)).setCell ⟨g, 1, none⟩ (.int .i64 b.y0)).setCell ⟨g, 2, none⟩ (.int .i64 b.x1)).setCell ⟨g, 3, none⟩ (.int .i64 b.y1)) g (bCells b) 23 := by
  have := has_set (has_set (has_set (has_set h 0 (.int .i64 b.x0)) 1 (.int .i64 b.y0)) 2 (.int .i64 b.x1)) 3 (.int .i64 b.y1)
  match cs, hs with
  | ⟨[c0, c1, c2, c3]⟩, _ => simpa using this
theorem RV.put {w0 wr : World} {g : Nat} {e : Option (Pt × Pt)} (h : RV w0 g e wr) (e' : Option (Pt × Pt)) (b : Bo) (hb : boxE e' = b) :
    RV w0 g e' ((((wr.setCell ⟨g + 1, 0, none⟩ (.int .i64 b.x0)).setCell ⟨g + 1, 1, none⟩ (.int .i64 b.y0)).setCell ⟨g + 1, 2, none⟩ (.int .i64 b.x1)).setCell ⟨g + 1, 3, none⟩ (.int .i64 b.y1)) := by
  have hl := h.lo
  subst hb
  exact ⟨has_set_ne (has_set_ne (has_set_ne (has_set_ne h.k0 (by omega) _ _) (by omega) _ _) (by omega) _ _) (by omega) _ _, box_put rfl h.k1,
    (((h.below.setCell (show w0.heap.size ≤ g + 1 by omega) _).setCell (show w0.heap.size ≤ g + 1 by omega) _).setCell (show w0.heap.size ≤ g + 1 by omega) _).setCell (show w0.heap.size ≤ g + 1 by omega) _, hl⟩
theorem boxE_pre (e : Option (Pt × Pt)) (p : Pt) (b : Bo) (h : (if e = none then pixB p else boxE e) = b) : boxE (ends1 e p) = uniB b (pixB p) := by
  rw [boxE_snoc]
  by_cases h0 : e = none
  · rw [if_pos h0] at h ⊢; subst h; rw [uniB_self]
  · rw [if_neg h0] at h ⊢; subst h; rfl
theorem pi_mem {ys : List Po} : ∀ {m n k : Nat}, n < m → k < (po ys n).ps.length → pt (po ys n).ps k ∈ ptsN ys m := by
  intro m
  induction m with
  | zero => intro n k h; omega
  | succ m ih =>
    intro n k h hk
    rw [ptsN]
    by_cases e : n = m
    · subst e
      refine List.mem_append_right _ ?_
      unfold pt
      simp [List.getD, hk]
    · exact List.mem_append_left _ (ih (by omega) hk)

set_option maxHeartbeats 4000000 in
theorem r14_of {v : Value} {ys : List Po} {w : World} (h : Ysl w v ys) (hp : PI (ptsN ys ys.length)) :
    Calls Try.prog 12 #[v] w fun r w' => r = .returned (.agg (bCells (boxP (ptsN ys ys.length)))) ∧ Below w.heap.size w w' := by
  obtain ⟨W, hW⟩ : ∃ W, (w.alloc (.cells #[.int .i64 0, .int .i64 0, .int .i64 0, .int .i64 0] 23)).alloc (.cells #[.int .i64 0, .int .i64 0, .int .i64 0, .int .i64 0] 23) = W := ⟨_, rfl⟩
  obtain ⟨ha, hr, hb0⟩ := has_old hW
  obtain ⟨B, hB⟩ : ∃ B, w.heap.size = B := ⟨_, rfl⟩
  rw [hB] at ha hr
  have E0 : Hid (RV w B none W) := Lib.hid ⟨ha, hr, hb0, by omega⟩
  obtain ⟨N, hN⟩ : ∃ N, ys.length = N := ⟨_, rfl⟩
  obtain ⟨ao, cap, ev⟩ : ∃ ao cap, v = .slice ao N cap := by obtain ⟨ao, cap, e, _⟩ := h; rw [hN] at e; exact ⟨_, _, e⟩
  subst ev
  rw [hN] at hp ⊢
  have HS := Lib.hid h
  have HW := Lib.hid hW
  have HP := Lib.hid hp
  have hN1 : N ≤ 1000 := by obtain ⟨_, _, _, hf, _⟩ := h; omega
  have HN1 := Lib.hid hN1
  clear h ha hr hb0 hW hN hN1 hp
  go_enter Try.func12, Try.ntmps12
  go_upto_region 2 with fail
  rw [HW.out]
  clear hB
  go_wp2_with fail
  go_loopw [4, 5] (fun s i wr => ∃ n : Nat, n ≤ N ∧ i = .int .i64 n ∧ s = .bool (!smP (endsP (ptsN ys n))) ∧ RV w B (endsP (ptsN ys n)) wr) (fun _ i _ => N - (intOf i).toNat)
  case atStart => exact ⟨0, by omega, rfl, rfl, E0.out⟩
  case round =>
    clear E0
    obtain ⟨n, hn, rfl, rfl, hk⟩ := hrel
    have o0 : (N : Int) ≤ 1000 := by have := HN1.out; omega
    have HK := Lib.hid hk
    by_cases hlt : n < N
    · obtain ⟨g, o, e1, r0, l0⟩ := HS.out.row (by omega)
      subst e1
      have hsl := r0.sl n (by omega)
      obtain ⟨y, hy⟩ : ∃ y, po ys n = y := ⟨_, rfl⟩
      have MM := Lib.hid (fun (k : Nat) (hk : k < (po ys n).ps.length) => HP.out _ (pi_mem (ys := ys) hlt hk))
      have HPN : Hid (ptsN ys (n + 1) = ptsN ys n ++ y.ps) := Lib.hid (by rw [← hy]; rfl)
      have CC : Hid (∀ w', Below w.heap.size w w' → w'.cell? ⟨g, o + n * 2 + 1, none⟩ = some y.v) := Lib.hid (fun w' hb => by rw [← hy]; exact (r0.below hb (by omega)).c1 n (by omega))
      rw [hy] at hsl MM
      obtain ⟨c, vy, ps⟩ := y
      simp only at hsl HPN CC MM
      obtain ⟨K, hK⟩ : ∃ K, ps.length = K := ⟨_, rfl⟩
      obtain ⟨aoy, capy, evy⟩ : ∃ ao cap, vy = .slice ao K cap := by obtain ⟨ao, cap, hv, _⟩ := hsl; rw [hK] at hv; exact ⟨_, _, hv⟩
      subst evy
      have SV := Lib.hid hsl
      have HKL := Lib.hid hK
      obtain ⟨Q, hQ⟩ : ∃ Q, ptsN ys n = Q := ⟨_, rfl⟩
      rw [hQ] at HPN HK
      have HQ := Lib.hid hQ
      have o3 : (n : Int) < N := by omega
      have o4 : n < N := hlt
      clear r0 l0 hy hk hsl hK
      rw [hQ]
      clear hQ
      go_wp2_with fail
      go_loopw [4, 6] (fun s i wk => ∃ k : Nat, k ≤ K ∧ i = .int .i64 k ∧ s = .bool (!smP (endsP (Q ++ ps.take k))) ∧ RV w B (endsP (Q ++ ps.take k)) wk) (fun _ i _ => K - (intOf i).toNat)
      case atStart =>
        have e : Q ++ ps.take 0 = Q := by simp
        exact ⟨0, by omega, rfl, by rw [e], by rw [e]; exact HK.out⟩
      case round =>
        obtain ⟨k, hk, rfl, rfl, hE⟩ := hrel
        have HE := Lib.hid hE
        have cs := CC.out _ hE.below
        have o6 : (K : Int) ≤ 8796093022208 := by have := SV.out.few; have := HKL.out; omega
        by_cases hkl : k < K
        · obtain ⟨gq, oq, eq, rp, -⟩ := (SV.out.below hE.below (Nat.le_refl _)).row (by omega)
          subst eq
          obtain ⟨E, hEe⟩ : ∃ E, endsP (Q ++ ps.take k) = E := ⟨_, rfl⟩
          have HNX : Hid (endsP (Q ++ ps.take (k + 1)) = ends1 E (pt ps k)) := Lib.hid (by rw [take_pt (by rw [HKL.out]; exact hkl), ← List.append_assoc, endsP_snoc, hEe])
          have c0 := rp.c0 k (by rw [HKL.out]; exact hkl)
          have c1 := rp.c1 k (by rw [HKL.out]; exact hkl)
          have mm := MM.out k (by rw [HKL.out]; exact hkl)
          obtain ⟨q, hq⟩ : ∃ q, pt ps k = q := ⟨_, rfl⟩
          rw [hq] at c0 c1 HNX mm
          obtain ⟨px, py⟩ := q
          simp only at c0 c1 mm
          have M4 := Lib.hid mm
          obtain ⟨ga, hga⟩ : ∃ g, wr.heap.size = g := ⟨_, rfl⟩
          obtain ⟨V2, hV2⟩ : ∃ V, wr.alloc (.cells #[.int .i64 px, .int .i64 py] 36) = V := ⟨_, rfl⟩
          have bV2 : Below wr.heap.size wr V2 := by rw [← hV2]; exact (Below.refl _ _).alloc (Nat.le_refl _) _
          have kq : Has V2 ga #[.int .i64 px, .int .i64 py] 36 := by rw [← hV2]; exact has_new hga
          rw [hEe] at hE HE
          have HE2 := Lib.hid (HE.out.later bV2)
          have KQ := Lib.hid kq
          have HV2 := Lib.hid hV2
          have HEe := Lib.hid hEe
          have o5 : (k : Int) < K := by omega
          have u1 := b_down px
          clear hE HE hq bV2 kq hV2 hEe rp mm u1
          go_upto_region 10 with fail
          rw [HV2.out]
          clear hga c0 c1 cs
          have a0 := KQ.out.cell 0 _ rfl
          have a1 := KQ.out.cell 1 _ rfl
          go_quiet (first | (go_at_call_of 33 px; exact quiet1 (r14_up px M4.out.1 _)) | (go_at_call_of 33 py; exact quiet1 (r14_up py M4.out.2 _)))
          obtain ⟨X, hX⟩ : ∃ X, V2.drewN nq = X := ⟨_, rfl⟩
          have HE3 := Lib.hid (show RV w B E X by rw [← hX]; exact HE2.out.later (below_drewN (Below.refl _ _) _))
          rw [hX]
          clear a0 a1 hX
          have PX : Hid (pixB ⟨px, py⟩ = ⟨px / 65536, py / 65536, up px, up py⟩) := Lib.hid rfl
          obtain ⟨d0, h0⟩ : ∃ d, px / 65536 = d := ⟨_, rfl⟩
          obtain ⟨d1, h1⟩ : ∃ d, py / 65536 = d := ⟨_, rfl⟩
          obtain ⟨d2, h2⟩ : ∃ d, up px = d := ⟨_, rfl⟩
          obtain ⟨d3, h3⟩ : ∃ d, up py = d := ⟨_, rfl⟩
          rw [h0, h1, h2, h3] at PX ⊢
          clear h0 h1 h2 h3
          obtain ⟨sm, hsm⟩ : ∃ s, smP (endsP (Q ++ ps.take k)) = s := ⟨_, rfl⟩
          rw [hsm]
          have HSM := Lib.hid hsm
          clear hsm
          go_upto_if 48 with fail
          go_cut [4] (fun s wx => s = .bool false ∧ ∃ e', (if E = none then pixB ⟨px, py⟩ else boxE E) = boxE e' ∧ RV w B e' wx)
          case first =>
            rcases E with _ | ⟨a, b⟩
            · obtain rfl : sm = false := by rw [← HSM.out, HEe.out]; rfl
              have hk1 := HE3.out.k1
              have p0 : X.cell? ⟨B + 1, 0, none⟩ = some (.int .i64 0) := hk1.cell 0 _ rfl
              have p1 : X.cell? ⟨B + 1, 1, none⟩ = some (.int .i64 0) := hk1.cell 1 _ rfl
              have p2 : X.cell? ⟨B + 1, 2, none⟩ = some (.int .i64 0) := hk1.cell 2 _ rfl
              have p3 : X.cell? ⟨B + 1, 3, none⟩ = some (.int .i64 0) := hk1.cell 3 _ rfl
              have fz := has_fro hk1
              have R0 := Lib.hid (HE3.out.put (some (⟨px, py⟩, ⟨px, py⟩)) ⟨d0, d1, d2, d3⟩ PX.out)
              clear hk1
              go_wp2
              go_meet
              exact ⟨rfl, some (⟨px, py⟩, ⟨px, py⟩), rfl, R0.out⟩
            · obtain rfl : sm = true := by rw [← HSM.out, HEe.out]; rfl
              go_wp2
              go_meet
              exact ⟨rfl, some (a, b), rfl, HE3.out⟩
          case rest =>
            obtain ⟨rfl, e', he, hR⟩ := hcut
            rename World => Y
            have e1 := boxE_pre E ⟨px, py⟩ _ he
            obtain ⟨b, hb⟩ : ∃ b, boxE e' = b := ⟨_, rfl⟩
            have k1 := hR.k1
            rw [hb] at e1 k1
            rw [PX.out] at e1
            obtain ⟨x0, y0, x1, y1⟩ := b
            obtain ⟨m0, hm0⟩ : ∃ m, (if d0 < x0 then d0 else x0) = m := ⟨_, rfl⟩
            obtain ⟨m1, hm1⟩ : ∃ m, (if d1 < y0 then d1 else y0) = m := ⟨_, rfl⟩
            obtain ⟨m2, hm2⟩ : ∃ m, (if x1 < d2 then d2 else x1) = m := ⟨_, rfl⟩
            obtain ⟨m3, hm3⟩ : ∃ m, (if y1 < d3 then d3 else y1) = m := ⟨_, rfl⟩
            have e2 : boxE (ends1 E ⟨px, py⟩) = ⟨m0, m1, m2, m3⟩ := by rw [e1, ← hm0, ← hm1, ← hm2, ← hm3]; rfl
            have hn0 : min x0 d0 = m0 := by rw [← hm0]; split <;> omega
            have hn1 : min y0 d1 = m1 := by rw [← hm1]; split <;> omega
            have hn2 : max x1 d2 = m2 := by rw [← hm2]; split <;> omega
            have hn3 : max y1 d3 = m3 := by rw [← hm3]; split <;> omega
            have R4 := Lib.hid (hR.put _ _ e2)
            have S4 : Hid (smP (endsP (Q ++ ps.take (k + 1))) = true) := Lib.hid (by rw [HNX.out]; exact ends1_smP _ _)
            have p0 : Y.cell? ⟨B + 1, 0, none⟩ = some (.int .i64 x0) := k1.cell 0 _ rfl
            have p1 : Y.cell? ⟨B + 1, 1, none⟩ = some (.int .i64 y0) := k1.cell 1 _ rfl
            have p2 : Y.cell? ⟨B + 1, 2, none⟩ = some (.int .i64 x1) := k1.cell 2 _ rfl
            have p3 : Y.cell? ⟨B + 1, 3, none⟩ = some (.int .i64 y1) := k1.cell 3 _ rfl
            have fz := has_fro k1
            clear hR k1 e1 e2 he hb hm0 hm1 hm2 hm3
            go_wp2_with fail
            go_roundw
            case rel => exact ⟨k + 1, by omega, by go_num, by rw [S4.out]; rfl, by rw [HNX.out]; exact R4.out⟩
            case measure => simp [intOf]; omega
        · obtain rfl : k = K := by omega
          have o5 : ¬ (k : Int) < k := by omega
          have R1 : Hid (RV w B (endsP (ptsN ys (n + 1))) _) := Lib.hid (by have := HE.out; rw [List.take_of_length_le (show ps.length ≤ k by rw [HKL.out]; exact Nat.le_refl _)] at this; rw [HPN.out]; exact this)
          have R2 : Hid (smP (endsP (Q ++ ps.take k)) = smP (endsP (ptsN ys (n + 1)))) := Lib.hid (by rw [HPN.out, List.take_of_length_le (show ps.length ≤ k by rw [HKL.out]; exact Nat.le_refl _)])
          clear hE
          go_wp2
          go_roundw
          case rel => exact ⟨n + 1, by omega, by go_num, by rw [← R2.out], R1.out⟩
          case measure => simp [intOf]; omega
    · obtain rfl : n = N := by omega
      have o3 : ¬ (n : Int) < n := by omega
      obtain ⟨R, hR⟩ : ∃ R, boxE (endsP (ptsN ys n)) = R := ⟨_, rfl⟩
      have BX : Hid (boxP (ptsN ys n) = R) := Lib.hid hR
      have k1 := hk.k1
      rw [hR] at k1
      obtain ⟨z0, z1, z2, z3⟩ := R
      have a0 := k1.cell 0 _ rfl
      have a1 := k1.cell 1 _ rfl
      have a2 := k1.cell 2 _ rfl
      have a3 := k1.cell 3 _ rfl
      have r0 := hk.k0.cell 0 _ rfl
      have r1 := hk.k0.cell 1 _ rfl
      have r2 := hk.k0.cell 2 _ rfl
      have r3 := hk.k0.cell 3 _ rfl
      have fz := has_fro hk.k0
      clear hk k1 hR
      go_wp2
      refine bodyPost_ret (v := .agg #[.int .i64 z0, .int .i64 z1, .int .i64 z2, .int .i64 z3]) (by simp [results, Try.results12, go_sem, r0, r1, r2, r3]) rfl ⟨by rw [BX.out], ?_⟩
      repeat (first | exact HK.out.below | refine Below.setCell ?_ (show w.heap.size ≤ B from HK.out.lo) _)

end Go.Proofs.Ytnhnnkeakoakfaa

namespace Go.Proofs.Ytnhnnkeakoakfaa
open Go Go.RowKit
open M

theorem Kz.sl {w wr : World} {base : Nat} {L : List (Bool × List Pt)} {v : Value} (h : Kz w base L v wr) (hf : L.length ≤ 1000) : ∃ zs : List Po, zs.map bareY = L ∧ zs.length = L.length ∧ Ysl wr v zs := by
  obtain ⟨zs, e, h, _⟩ := h
  exact ⟨zs, e, h.len, h.sl hf⟩
theorem po_mem {zs : List Po} {i : Nat} (h : i < zs.length) : po zs i ∈ zs := by
  unfold po
  rw [List.getD_eq_getElem?_getD, List.getElem?_eq_getElem h]
  exact List.getElem_mem h
theorem pi_zs {zs : List Po} {L : List (Bool × List Pt)} (he : zs.map bareY = L) (hp : ∀ y ∈ L, PJ y.2) {i : Nat} (hi : i < zs.length) : PI (po zs i).ps := by
  have : bareY (po zs i) ∈ L := by rw [← he]; exact List.mem_map_of_mem (po_mem hi)
  exact hp _ this
theorem pi_ptsN {zs : List Po} (h : ∀ i, i < zs.length → PI (po zs i).ps) : ∀ n, n ≤ zs.length → PI (ptsN zs n)
  | 0, _ => fun p hp => by cases hp
  | n + 1, hn => fun p hp => by
    rcases List.mem_append.1 hp with h1 | h1
    · exact pi_ptsN h n (by omega) p h1
    · exact h n (by omega) p h1
theorem ptsN_part {zs : List Po} : ∀ {n i : Nat}, i < n → ∀ p ∈ (po zs i).ps, p ∈ ptsN zs n
  | 0, i, h, _, _ => by omega
  | n + 1, i, h, p, hp => by
    by_cases e : i = n
    · subst e; exact List.mem_append_right _ hp
    · exact List.mem_append_left _ (ptsN_part (by omega) p hp)
/-- A tape's polys, in memory: few, their numbers of 64 bits; what was there ahead of the tape is as it was. -/
theorem polys_of {w w0 w' : World} {g : Nat} {v : Value} {e : Ending} (h : Plss w g v e w') (hb : Below w0.heap.size w0 w) (hg : w0.heap.size ≤ g) : ∃ (vl : Value) (zs : List Po), e = .returned vl ∧ Ysl w' vl zs ∧ zs.length ≤ 285 ∧ (∀ i, i < zs.length → PI (po zs i).ps) ∧ Below w0.heap.size w0 w' := by
  obtain ⟨L, vl, rfl, hf, hp, hk, _, hgr⟩ := h
  obtain ⟨zs, e, hl, hs⟩ := hk.sl (by omega)
  exact ⟨vl, zs, rfl, hs, by omega, fun i hi => pi_zs e hp hi, below_on hb hgr hg hb.size⟩

end Go.Proofs.Ytnhnnkeakoakfaa

namespace Go.Proofs.Ytnhnnkeakoakfaa
namespace M

/-- The columns x < k of row y that P names. -/
def colP (P : Nat → Nat → Bool) (k y : Nat) : List Pt := ((List.range k).filter (fun x => P x y)).map (fun (x : Nat) => (⟨(x : Int), (y : Int)⟩ : Pt))
/-- The rows y < n of K columns each. -/
def rowP (P : Nat → Nat → Bool) (K n : Nat) : List Pt := (List.range n).flatMap (colP P K)
theorem colP_zero (P : Nat → Nat → Bool) (y : Nat) : colP P 0 y = [] := rfl
theorem colP_succ (P : Nat → Nat → Bool) (k y : Nat) : colP P (k + 1) y = colP P k y ++ (if P k y = true then [⟨(k : Int), (y : Int)⟩] else []) := by
  unfold colP
  rw [List.range_succ, List.filter_append, List.map_append]
  congr 1
  by_cases h : P k y = true
  · simp [h]
  · simp [h]
theorem rowP_succ (P : Nat → Nat → Bool) (K n : Nat) : rowP P K (n + 1) = rowP P K n ++ colP P K n := by
  unfold rowP
  rw [List.range_succ, List.flatMap_append]
  simp
theorem colP_length (P : Nat → Nat → Bool) (k y : Nat) : (colP P k y).length ≤ k := by
  unfold colP
  rw [List.length_map]
  exact Nat.le_trans (List.length_filter_le _ _) (by simp)
theorem rowP_length (P : Nat → Nat → Bool) (K n : Nat) : (rowP P K n).length ≤ n * K := by
  induction n with
  | zero => simp [rowP]
  | succ n ih =>
    rw [rowP_succ, List.length_append, Nat.succ_mul]
    have := colP_length P K n
    omega
theorem colP_none {P : Nat → Nat → Bool} {k y : Nat} (h : ∀ x, x < k → P x y = false) : colP P k y = [] := by
  induction k with
  | zero => rfl
  | succ k ih => rw [colP_succ, ih (fun x hx => h x (by omega)), h k (by omega)]; rfl
theorem rowP_none {P : Nat → Nat → Bool} {K n : Nat} (h : ∀ x y, y < n → P x y = false) : rowP P K n = [] := by
  induction n with
  | zero => rfl
  | succ n ih => rw [rowP_succ, ih (fun x y hy => h x y (by omega)), colP_none (fun x _ => h x n (by omega))]; rfl
theorem colP_far {P : Nat → Nat → Bool} {k y : Nat} (h : ∀ x, k ≤ x → P x y = false) : ∀ d, colP P (k + d) y = colP P k y
  | 0 => rfl
  | d + 1 => by rw [← Nat.add_assoc, colP_succ, colP_far h d, h (k + d) (by omega)]; simp
theorem rowP_cols {P : Nat → Nat → Bool} {K K' : Nat} (hK : K ≤ K') (h : ∀ x y, K ≤ x → P x y = false) (n : Nat) : rowP P K' n = rowP P K n := by
  induction n with
  | zero => rfl
  | succ n ih =>
    have := colP_far (P := P) (k := K) (y := n) (fun x hx => h x n hx) (K' - K)
    rw [show K + (K' - K) = K' by omega] at this
    rw [rowP_succ, rowP_succ, ih, this]
theorem rowP_far {P : Nat → Nat → Bool} {K n : Nat} (h : ∀ x y, n ≤ y → P x y = false) : ∀ d, rowP P K (n + d) = rowP P K n
  | 0 => rfl
  | d + 1 => by rw [← Nat.add_assoc, rowP_succ, rowP_far h d, colP_none (fun x _ => h x (n + d) (by omega))]; simp
theorem rowP_big {P : Nat → Nat → Bool} {K K' n n' : Nat} (hK : K ≤ K') (hn : n ≤ n') (h : ∀ x y, K ≤ x → P x y = false) (h2 : ∀ x y, n ≤ y → P x y = false) : rowP P K' n' = rowP P K n := by
  have := rowP_far (P := P) (K := K) (n := n) h2 (n' - n)
  rw [show n + (n' - n) = n' by omega] at this
  rw [rowP_cols hK h, this]
theorem rowP_congr {P P' : Nat → Nat → Bool} {K n : Nat} (h : ∀ x y, x < K → y < n → P x y = P' x y) : rowP P K n = rowP P' K n := by
  have hc : ∀ y, y < n → ∀ k, k ≤ K → colP P k y = colP P' k y := by
    intro y hy k
    induction k with
    | zero => intro _; rfl
    | succ k ih => intro hk; rw [colP_succ, colP_succ, ih (by omega), h k y (by omega) hy]
  induction n with
  | zero => rfl
  | succ n ih => rw [rowP_succ, rowP_succ, ih (fun x y hx hy => h x y hx (by omega)) (fun y hy => hc y (by omega)), hc n (by omega) K (Nat.le_refl _)]

/-- May a screen be so wide (or so high)? -/
def sizeB (n : Int) : Bool := decide (1 ≤ n) && decide (n ≤ 256)
theorem sizeB_iff {n : Int} : sizeB n = true ↔ 1 ≤ n ∧ n ≤ 256 := by unfold sizeB; simp
/-- What of b is on the screen. -/
def onB (b : Bo) (w h : Int) : Bo := meetB b ⟨0, 0, w, h⟩
/-- A box counted in tiles. -/
def inT (b : Bo) : Bo := ⟨b.x0 / 8, b.y0 / 8, (b.x1 + 7) / 8, (b.y1 + 7) / 8⟩
def tileP (c : Bo) (x y : Nat) : Bool := decide (c.x0 ≤ x) && (decide ((x : Int) < c.x1) && (decide (c.y0 ≤ y) && decide ((y : Int) < c.y1)))
theorem tileP_iff {c : Bo} {x y : Nat} : tileP c x y = true ↔ c.x0 ≤ x ∧ (x : Int) < c.x1 ∧ c.y0 ≤ y ∧ (y : Int) < c.y1 := by unfold tileP; simp
def tilesL (b : Bo) (w h : Int) : List Pt := if (sizeB w && sizeB h) = true then rowP (tileP (inT (onB b w h))) 32 32 else []
/-- What of a box is on a screen that may be: nothing, or a box of some pixels between 0 and the screen's ends. -/
theorem on_bd (b : Bo) {w h : Int} (_hw : 1 ≤ w) (_hh : 1 ≤ h) : onB b w h = zeroB ∨ (0 ≤ (onB b w h).x0 ∧ (onB b w h).x0 < (onB b w h).x1 ∧ (onB b w h).x1 ≤ w ∧ 0 ≤ (onB b w h).y0 ∧ (onB b w h).y0 < (onB b w h).y1 ∧ (onB b w h).y1 ≤ h) := by
  unfold onB meetB
  cases he : emptyB (capB b ⟨0, 0, w, h⟩)
  · right
    have e := emptyB_not he
    have h1 := le_maxI b.x0 0
    have h2 := le_maxI b.y0 0
    have h3 := minI_le b.x1 w
    have h4 := minI_le b.y1 h
    rw [orZ_no he]
    simp only [capB] at e ⊢
    omega
  · left; exact orZ_yes he
theorem inT_bd (b : Bo) {w h : Int} (hw : 1 ≤ w ∧ w ≤ 256) (hh : 1 ≤ h ∧ h ≤ 256) : ∃ x0 y0 x1 y1 : Nat, inT (onB b w h) = ⟨x0, y0, x1, y1⟩ ∧ x0 ≤ x1 ∧ y0 ≤ y1 ∧ x1 ≤ 32 ∧ y1 ≤ 32 := by
  rcases on_bd b hw.1 hh.1 with e | e
  · exact ⟨0, 0, 0, 0, by rw [e]; rfl, by omega, by omega, by omega, by omega⟩
  · refine ⟨((onB b w h).x0 / 8).toNat, ((onB b w h).y0 / 8).toNat, (((onB b w h).x1 + 7) / 8).toNat, (((onB b w h).y1 + 7) / 8).toNat, ?_, by omega, by omega, by omega, by omega⟩
    unfold inT
    rw [Int.toNat_of_nonneg (by omega), Int.toNat_of_nonneg (by omega), Int.toNat_of_nonneg (by omega), Int.toNat_of_nonneg (by omega)]
theorem tilesL_no {b : Bo} {w h : Int} (e : (sizeB w && sizeB h) = false) : tilesL b w h = [] := if_neg (by rw [e]; simp)
theorem tilesL_yes {b : Bo} {w h : Int} (hw : 1 ≤ w ∧ w ≤ 256) (hh : 1 ≤ h ∧ h ≤ 256) {x0 y0 x1 y1 : Nat} (he : inT (onB b w h) = ⟨x0, y0, x1, y1⟩) (h1 : x1 ≤ 32) (h2 : y1 ≤ 32) : tilesL b w h = rowP (tileP ⟨x0, y0, x1, y1⟩) x1 y1 := by
  unfold tilesL
  rw [if_pos (by rw [sizeB_iff.2 hw, sizeB_iff.2 hh]; rfl), he]
  refine rowP_big h1 h2 (fun x y hx => ?_) (fun x y hy => ?_)
  · rw [Bool.eq_false_iff, ne_eq, tileP_iff]; simp only; omega
  · rw [Bool.eq_false_iff, ne_eq, tileP_iff]; simp only; omega
theorem emptyB_orZ (b : Bo) : emptyB (orZ b) = emptyB b := by
  cases h : emptyB b
  · rw [orZ_no h, h]
  · rw [orZ_yes h]; rfl
/-- A tile's pixels on the screen. -/
def rectB (x y : Nat) (w h : Int) : Bo := meetB ⟨(x : Int) * 8, (y : Int) * 8, (x : Int) * 8 + 8, (y : Int) * 8 + 8⟩ ⟨0, 0, w, h⟩
/-- A tile has a pixel of b on the screen just if it lies within b, counted in tiles. -/
theorem rect_tile (b : Bo) {w h : Int} {x y : Nat} (hx : (x : Int) * 8 < w) (hy : (y : Int) * 8 < h) : emptyB (meetB b (rectB x y w h)) = !tileP (inT (onB b w h)) x y := by
  have hr : rectB x y w h = ⟨(x : Int) * 8, (y : Int) * 8, minI ((x : Int) * 8 + 8) w, minI ((y : Int) * 8 + 8) h⟩ := by
    have h3 := minI_le ((x : Int) * 8 + 8) w
    have h4 := minI_le ((y : Int) * 8 + 8) h
    unfold rectB meetB
    rw [orZ_no (by
      refine emptyB_no ?_ ?_
      · simp only [capB]; rw [maxI_eq (by omega)]; omega
      · simp only [capB]; rw [maxI_eq (by omega)]; omega)]
    simp only [capB]
    rw [maxI_eq (by omega), maxI_eq (by omega)]
  rw [hr]
  have key : emptyB (meetB b ⟨(x : Int) * 8, (y : Int) * 8, minI ((x : Int) * 8 + 8) w, minI ((y : Int) * 8 + 8) h⟩) = true ↔ ¬ tileP (inT (onB b w h)) x y = true := by
    unfold meetB
    rw [emptyB_orZ, emptyB_iff, tileP_iff]
    have a1 := le_maxI b.x0 ((x : Int) * 8)
    have a2 := le_maxI b.y0 ((y : Int) * 8)
    have a3 := minI_le ((x : Int) * 8 + 8) w
    have a4 := minI_le ((y : Int) * 8 + 8) h
    have a5 := minI_le b.x1 (minI ((x : Int) * 8 + 8) w)
    have a6 := minI_le b.y1 (minI ((y : Int) * 8 + 8) h)
    have c1 := le_maxI b.x0 0
    have c2 := le_maxI b.y0 0
    have c3 := minI_le b.x1 w
    have c4 := minI_le b.y1 h
    cases he : emptyB (capB b ⟨0, 0, w, h⟩)
    · have e := emptyB_not he
      have eo : onB b w h = capB b ⟨0, 0, w, h⟩ := orZ_no he
      rw [eo]
      simp only [capB, inT] at e ⊢
      omega
    · have eo : onB b w h = zeroB := orZ_yes he
      rw [eo]
      rw [emptyB_iff] at he
      simp only [capB, inT, zeroB] at he ⊢
      omega
  rw [Bool.eq_iff_iff, key]
  simp
theorem tilesL_all {b : Bo} {w h : Int} (hw : 1 ≤ w ∧ w ≤ 256) (hh : 1 ≤ h ∧ h ≤ 256) {K H : Nat} (hK : w ≤ K * 8) (hH : h ≤ H * 8) (k2 : K ≤ 32) (h2 : H ≤ 32) : tilesL b w h = rowP (tileP (inT (onB b w h))) K H := by
  unfold tilesL
  rw [if_pos (by rw [sizeB_iff.2 hw, sizeB_iff.2 hh]; rfl)]
  have e := on_bd b hw.1 hh.1
  refine rowP_big k2 h2 (fun x y hx => ?_) (fun x y hy => ?_)
  · rw [Bool.eq_false_iff, ne_eq, tileP_iff]
    rcases e with e | e
    · rw [e]; simp only [inT, zeroB]; omega
    · simp only [inT]; omega
  · rw [Bool.eq_false_iff, ne_eq, tileP_iff]
    rcases e with e | e
    · rw [e]; simp only [inT, zeroB]; omega
    · simp only [inT]; omega
/-- How often a tile comes. -/
def cntT (L : List Pt) (j : Nat) : Nat := L.countP (fun t => decide (t.y * 5 + t.x = (j : Int)))
theorem cntT_append (L N : List Pt) (j : Nat) : cntT (L ++ N) j = cntT L j + cntT N j := List.countP_append
theorem cnt_col {P : Nat → Nat → Bool} (h5 : ∀ x y, P x y = true → x < 5) (j y k : Nat) : cntT (colP P k y) j = if j / 5 = y ∧ j % 5 < k ∧ P (j % 5) y = true then 1 else 0 := by
  induction k with
  | zero => rw [colP_zero, if_neg (by omega)]; rfl
  | succ k ih =>
    rw [colP_succ, cntT_append, ih]
    by_cases hp : P k y = true
    · have h1 := h5 k y hp
      rw [if_pos hp]
      by_cases hj : (y : Int) * 5 + (k : Int) = j
      · have e1 : j / 5 = y := by omega
        have e2 : j % 5 = k := by omega
        rw [if_neg (by omega), if_pos ⟨e1, by omega, by rw [e2]; exact hp⟩]
        simp [cntT, hj]
      · have : cntT [⟨(k : Int), (y : Int)⟩] j = 0 := by simp [cntT, hj]
        rw [this]
        by_cases hc : j / 5 = y ∧ j % 5 < k ∧ P (j % 5) y = true
        · rw [if_pos hc, if_pos ⟨hc.1, by omega, hc.2.2⟩]
        · rw [if_neg hc, if_neg]
          rintro ⟨a, b, c⟩
          exact hc ⟨a, by omega, c⟩
    · rw [if_neg hp]
      have : cntT [] j = 0 := rfl
      rw [this]
      by_cases hc : j / 5 = y ∧ j % 5 < k ∧ P (j % 5) y = true
      · rw [if_pos hc, if_pos ⟨hc.1, by omega, hc.2.2⟩]
      · rw [if_neg hc, if_neg]
        rintro ⟨a, b, c⟩
        refine hc ⟨a, ?_, c⟩
        have : j % 5 ≠ k := fun e => hp (by rw [← e]; exact c)
        omega
theorem cnt_row {P : Nat → Nat → Bool} (h5 : ∀ x y, P x y = true → x < 5) (j K n : Nat) : cntT (rowP P K n) j = if j / 5 < n ∧ j % 5 < K ∧ P (j % 5) (j / 5) = true then 1 else 0 := by
  induction n with
  | zero => rw [if_neg (by omega)]; rfl
  | succ n ih =>
    rw [rowP_succ, cntT_append, ih, cnt_col h5]
    by_cases e : j / 5 = n
    · subst e
      rw [if_neg (by omega)]
      by_cases hc : j % 5 < K ∧ P (j % 5) (j / 5) = true
      · rw [if_pos ⟨rfl, hc⟩, if_pos ⟨by omega, hc⟩]
      · rw [if_neg (fun h => hc h.2), if_neg (fun h => hc h.2)]
    · rw [if_neg (show ¬ (j / 5 = n ∧ j % 5 < K ∧ P (j % 5) n = true) from fun h => e h.1)]
      by_cases hc : j / 5 < n ∧ j % 5 < K ∧ P (j % 5) (j / 5) = true
      · rw [if_pos hc, if_pos ⟨by omega, hc.2⟩]
      · rw [if_neg hc, if_neg (fun h => hc ⟨by omega, h.2⟩)]
theorem mem_row {P : Nat → Nat → Bool} {K n : Nat} {t : Pt} (h : t ∈ rowP P K n) : ∃ x y : Nat, t = ⟨x, y⟩ ∧ x < K ∧ y < n ∧ P x y = true := by
  unfold rowP at h
  obtain ⟨y, hy, ht⟩ := List.mem_flatMap.1 h
  unfold colP at ht
  obtain ⟨x, hx, rfl⟩ := List.mem_map.1 ht
  rw [List.mem_filter] at hx
  exact ⟨x, y, rfl, by simpa using hx.1, by simpa using hy, hx.2⟩
/-- A tile is named just if one of its pixels is b's and on the screen. -/
theorem tile_pixel (b : Bo) {w h : Int} (hw : 1 ≤ w) (hh : 1 ≤ h) (x y : Nat) : tileP (inT (onB b w h)) x y = true ↔ ∃ px py : Nat, (px : Int) < w ∧ (py : Int) < h ∧ hasB b px py = true ∧ px / 8 = x ∧ py / 8 = y := by
  rw [tileP_iff]
  have e := on_bd b hw hh
  have hon : ∀ px py : Nat, hasB (onB b w h) px py = true ↔ hasB b px py = true ∧ (px : Int) < w ∧ (py : Int) < h := by
    intro px py
    unfold onB
    rw [meet_has, Bool.and_eq_true, hasB_iff (b := ⟨0, 0, w, h⟩)]
    simp only
    exact ⟨fun ⟨a, b⟩ => ⟨a, b.2.1, b.2.2.2⟩, fun ⟨a, b, c⟩ => ⟨a, by omega, b, by omega, c⟩⟩
  constructor
  · intro ht
    rcases e with e | e
    · rw [e] at ht; simp only [inT, zeroB] at ht; omega
    · simp only [inT] at ht
      have m1 := le_maxI ((x : Int) * 8) (onB b w h).x0
      have m2 := le_maxI ((y : Int) * 8) (onB b w h).y0
      obtain ⟨px, hpx⟩ := Int.eq_ofNat_of_zero_le (show 0 ≤ maxI ((x : Int) * 8) (onB b w h).x0 by omega)
      obtain ⟨py, hpy⟩ := Int.eq_ofNat_of_zero_le (show 0 ≤ maxI ((y : Int) * 8) (onB b w h).y0 by omega)
      have hh := (hon px py).1 (by rw [hasB_iff]; omega)
      exact ⟨px, py, hh.2.1, hh.2.2, hh.1, by omega, by omega⟩
  · rintro ⟨px, py, h1, h2, h3, rfl, rfl⟩
    have := (hon px py).2 ⟨h3, h1, h2⟩
    rw [hasB_iff] at this
    rcases e with e | e
    · rw [e] at this; simp only [zeroB] at this; omega
    · simp only [inT]
      omega

end M
end Go.Proofs.Ytnhnnkeakoakfaa

namespace Go.Proofs.Ytnhnnkeakoakfaa
open Go Go.RowKit
open M

/-- The value v of a call's own holds just these tiles, in its own blocks from 'base' on. -/
def Town (w : World) (base : Nat) (v : Value) (ps : List Pt) : Prop := w.ownsRow base 45 2 v ps.length (pls ps)
theorem Town.sl {w : World} {base : Nat} {v : Value} {ps : List Pt} (h : Town w base v ps) (hf : ps.length ≤ 8796093022208) : Psl w v ps := by
  rcases h.2 with ⟨rfl, hn⟩ | ⟨g, cap, cur, rfl, _, hg, _, _, _, ht⟩
  · exact ⟨none, 0, by rw [hn], hf, fun h0 => by omega⟩
  · refine ⟨_, cap, rfl, hf, fun _ => ⟨g, 0, rfl, prow_of hf fun j u hu => ?_⟩⟩
    rw [Nat.zero_add, cell_of_row w g j cur _ _ hg]
    rw [← ht, List.getElem?_take] at hu
    split at hu
    · simpa using hu
    · cases hu
theorem Town.nil (w : World) (base : Nat) : Town w base (.slice none 0 0) [] := World.ownsRow_nil _ _ _ _
theorem Town.alloc {w : World} {base : Nat} {v : Value} {ps : List Pt} (h : Town w base v ps) (o : Obj) : Town (w.alloc o) base v ps := World.ownsRow.alloc h o
theorem Town.kept {w w' : World} {B : Nat} {v : Value} {ps : List Pt} {row : Option Nat} (h : Town w B v ps) (hg : w.grownBy w' row) (hr : ∀ k, row = some k → v.ownBlock ≠ some k) : Town w' B v ps := by
  refine World.ownsRow.kept h hg ?_
  by_cases e : v.ownBlock = none
  · exact Or.inl e
  · refine Or.inr fun e2 => ?_
    cases hrow : row with
    | none => rw [hrow] at e2; exact e e2
    | some k => rw [hrow] at e2; exact hr k hrow e2
theorem Town.below {w w' : World} {B B' : Nat} {v : Value} {ps : List Pt} (h : Town w B v ps) (hb : Below B' w w') (hB : w.heap.size ≤ B') : Town w' B v ps := h.kept (grownBy_below hb hB) fun k hk => by cases hk
theorem Town.base {w : World} {B : Nat} {v : Value} {ps : List Pt} (h : Town w B v ps) (k : Nat) (hk : v.ownBlock = some k) : B ≤ k ∧ k < w.heap.size := World.ownsRow.lt h k hk
theorem Town.lower {w : World} {B B' : Nat} {v : Value} {ps : List Pt} (h : Town w B v ps) (hB : B' ≤ B) : Town w B' v ps := by
  refine ⟨h.1, ?_⟩
  rcases h.2 with h | ⟨g, cap, cur, a, b, r⟩
  · exact Or.inl h
  · exact Or.inr ⟨g, cap, cur, a, by omega, r⟩
theorem Town.len {w : World} {B : Nat} {v : Value} {ps : List Pt} (h : Town w B v ps) : ∃ ao cap, v = .slice ao ps.length cap := by
  rcases h.2 with ⟨rfl, hn⟩ | ⟨g, cap, cur, rfl, _⟩
  · exact ⟨none, 0, by rw [hn]⟩
  · exact ⟨_, cap, rfl⟩
theorem Try.infoTl : (Try.prog.info? 45).map (fun i => (i.zero, i.size, i.bytes)) = some (some (.agg #[.int .i64 0, .int .i64 0]), 2, 16) := by kernel_rfl
theorem wpList_append_t {W w1 : World} {base : Nat} {l : Value} {rs : List Pt} {ops : Array Oper} {rest : List Oper} {op : Oper} {a : Act} {Q : Exit → Act → World → Prop} (hgd : op.guard = none) (s x : Operand)
    (hop : op.op = .call { callee := .builtin .append, args := #[s, x], argTypes := #[43, 43] }) (hs : a.eval s = l) (H c2 : Nat) (hx : a.eval x = .slice (some ⟨H, 0, none⟩) 1 c2)
    (p : Pt) (hn : Has W H (pCells p) 45) (hf : rs.length ≤ 1000000) (hT : Town W base l rs) (hb : base ≤ W.heap.size) (hw : Below w1.heap.size w1 W) (hl : w1.heap.size ≤ base)
    (h : ∀ l' w', Town w' base l' (rs ++ [p]) → Below w1.heap.size w1 w' → wpList Try.prog ops Q rest (a.put op.dst l') w') : wpList Try.prog ops Q (op :: rest) a W := by
  obtain ⟨i0, hi, hz0, hz1, hz2⟩ := info_parts Try.infoTl
  refine wpList_plain hgd fun _ hK => wp_append_lies W s x 43 hop base 45 i0 _ 2 16 Try.underlying43 hi hz0 hz1 hz2 rfl (by decide) l rs.length (pls rs) hs hT ⟨H, 0, none⟩ 1 c2 (pls [p]) hx rfl ?_ (ones_pls [p]) (by decide) (by unfold maxLen; omega) (by omega) hb _ rfl ?_
  · intro j u hu
    rw [Addr.add_lit, Nat.zero_add]
    exact hn.cell j u (by simpa [pls, pl] using hu)
  intro g' cap' w' hown' hg hat _
  have hgl : ∀ k, l.ownBlock = some k → base ≤ k := fun k hk => (hT.base k hk).1
  refine hK _ _ (h _ w' ?_ (hw.grown hg hw.size (fun k hk => by have := hgl k hk; omega)))
  unfold Town
  rw [List.length_append, pls_append]
  exact hown'
/-- A list of just these tiles, the call's own, is returned. -/
def GivesT (w : World) (L : List Pt) (e : Ending) (w' : World) : Prop := ∃ v, e = .returned v ∧ Town w' w.heap.size v L ∧ Below w.heap.size w w'

end Go.Proofs.Ytnhnnkeakoakfaa

namespace Go.Proofs.Ytnhnnkeakoakfaa
open Go Go.RowKit
open M

theorem b_size (n : Int) (w : World) : Calls Try.prog 34 #[.int .i64 n] w fun r w' => r = .returned (.bool (sizeB n)) ∧ w = w' := by
  unfold sizeB
  by_cases h : 1 ≤ n
  · go_enter Try.func34, Try.ntmps34
    go_wp2
    go_ret
    exact ⟨by simp [h], rfl⟩
  · go_enter Try.func34, Try.ntmps34
    go_wp2
    go_ret
    exact ⟨by simp; omega, rfl⟩
theorem b_inTiles (b : Bo) (w : World) (h1 : -1000000 ≤ b.x1 ∧ b.x1 ≤ 1000000) (h2 : -1000000 ≤ b.y1 ∧ b.y1 ≤ 1000000) : Calls Try.prog 35 #[.agg (bCells b)] w fun r w' => r = .returned (.agg (bCells (inT b))) ∧ Below w.heap.size w w' := by
  obtain ⟨x0, y0, x1, y1⟩ := b
  obtain ⟨h1, h3⟩ := h1
  obtain ⟨h2, h4⟩ := h2
  simp only at h1 h2 h3 h4
  unfold inT
  simp only
  go_enter Try.func35, Try.ntmps35
  go_wp2
  refine bodyPost_ret (v := .agg #[.int .i64 (x0 / 8), .int .i64 (y0 / 8), .int .i64 ((x1 + 7) / 8), .int .i64 ((y1 + 7) / 8)]) (by simp [results, Try.results35, go_sem]) rfl ⟨rfl, ?_⟩
  repeat (first | exact Below.refl _ _ | refine Below.alloc ?_ (by first | (simp; done) | (simp; omega)) _ | refine Below.setCell ?_ (by simp; omega) _)

set_option maxHeartbeats 4000000 in
theorem b_tiles (b : Bo) (wd ht : Int) (w : World) : Calls Try.prog 15 #[.agg (bCells b), .int .i64 wd, .int .i64 ht] w (GivesT w (tilesL b wd ht)) := by
  obtain ⟨W, hW⟩ : ∃ W, w.alloc (.cells (bCells b) 23) = W := ⟨_, rfl⟩
  obtain ⟨B, hB⟩ : ∃ B, w.heap.size = B := ⟨_, rfl⟩
  have hr : Has W B (bCells b) 23 := by rw [← hW]; exact has_new hB
  have hb0 : Below w.heap.size w W := by rw [← hW]; exact (Below.refl _ _).alloc (Nat.le_refl _) _
  have HB0 := Lib.hid hb0
  have HA := Lib.hid hr
  have HW := Lib.hid hW
  obtain ⟨sw, hsw⟩ : ∃ s, sizeB wd = s := ⟨_, rfl⟩
  obtain ⟨sh, hsh⟩ : ∃ s, sizeB ht = s := ⟨_, rfl⟩
  have SW := Lib.hid (fun w => b_size wd w)
  have SH := Lib.hid (fun w => b_size ht w)
  rw [hsw] at SW
  rw [hsh] at SH
  have HSW := Lib.hid hsw
  have HSH := Lib.hid hsh
  obtain ⟨x0, y0, x1, y1⟩ := b
  have a0 := hr.cell 0 _ rfl
  have a1 := hr.cell 1 _ rfl
  have a2 := hr.cell 2 _ rfl
  have a3 := hr.cell 3 _ rfl
  clear hW hr hb0 hsw hsh
  go_enter Try.func15, Try.ntmps15
  go_upto_region 1 with fail
  rw [HW.out]
  clear hB
  cases sw
  · go_wp2_with fail
    refine (SW.out _).mono ?_
    rintro r w1 ⟨rfl, rfl⟩
    go_wp2
    go_ret
    exact ⟨_, rfl, by rw [tilesL_no (by rw [HSW.out]; rfl)]; exact Town.nil _ _, HB0.out⟩
  · go_wp2_with fail
    refine (SW.out _).mono ?_
    rintro r w1 ⟨rfl, rfl⟩
    cases sh
    · go_wp2_with fail
      refine (SH.out _).mono ?_
      rintro r w1 ⟨rfl, rfl⟩
      go_wp2
      go_ret
      exact ⟨_, rfl, by rw [tilesL_no (by rw [HSW.out, HSH.out]; rfl)]; exact Town.nil _ _, HB0.out⟩
    · go_wp2_with fail
      refine (SH.out _).mono ?_
      rintro r w1 ⟨rfl, rfl⟩
      have hw := sizeB_iff.1 HSW.out
      have hh := sizeB_iff.1 HSH.out
      obtain ⟨X0, Y0, X1, Y1, hi, l1, l2, l3, l4⟩ := inT_bd ⟨x0, y0, x1, y1⟩ hw hh
      obtain ⟨P, hP⟩ : ∃ P, tileP ⟨(X0 : Int), Y0, X1, Y1⟩ = P := ⟨_, rfl⟩
      have tle := tilesL_yes hw hh hi l3 l4
      rw [hP] at tle
      have TLE := Lib.hid tle
      have PY : Hid (∀ x y, y < Y0 → P x y = false) := Lib.hid (fun x y hy => by rw [← hP, Bool.eq_false_iff, ne_eq, tileP_iff]; simp only; omega)
      have PX : Hid (∀ x y, x < X0 → P x y = false) := Lib.hid (fun x y hy => by rw [← hP, Bool.eq_false_iff, ne_eq, tileP_iff]; simp only; omega)
      have PI : Hid (∀ x y, X0 ≤ x → x < X1 → Y0 ≤ y → y < Y1 → P x y = true) := Lib.hid (fun x y h1 h2 h3 h4 => by rw [← hP, tileP_iff]; simp only; omega)
      clear hP tle
      have BD := on_bd ⟨x0, y0, x1, y1⟩ hw.1 hh.1
      have ME := Lib.hid (fun w => b_meet ⟨x0, y0, x1, y1⟩ ⟨0, 0, wd, ht⟩ w)
      have HON : Hid (meetB ⟨x0, y0, x1, y1⟩ ⟨0, 0, wd, ht⟩ = onB ⟨x0, y0, x1, y1⟩ wd ht) := Lib.hid rfl
      rw [HON.out] at ME
      obtain ⟨c, hc⟩ : ∃ c, onB ⟨x0, y0, x1, y1⟩ wd ht = c := ⟨_, rfl⟩
      rw [hc] at ME BD hi
      have IT := Lib.hid (fun w => b_inTiles c w (by rcases BD with rfl | e; decide; omega) (by rcases BD with rfl | e; decide; omega))
      rw [hi] at IT
      have L1 := Lib.hid l1
      have L2 := Lib.hid l2
      have L3 := Lib.hid l3
      have L4 := Lib.hid l4
      clear hw hh BD hc hi l1 l2 l3 l4
      go_wp2_with fail
      refine (ME.out _).mono ?_
      rintro r w2 ⟨rfl, hb2⟩
      have B2 := Lib.hid (HB0.out.trans (hb2.mono HB0.out.size))
      clear a0 a1 a2 a3 hb2
      go_wp2_with fail
      refine (IT.out _).mono ?_
      rintro r w3 ⟨rfl, hb3⟩
      have B3 := Lib.hid (B2.out.trans (hb3.mono B2.out.size))
      clear hb3
      obtain ⟨V, hV⟩ : ∃ V, w3.alloc (.cells #[.int .i64 X0, .int .i64 Y0, .int .i64 X1, .int .i64 Y1] 23) = V := ⟨_, rfl⟩
      obtain ⟨G, hG⟩ : ∃ G, w3.heap.size = G := ⟨_, rfl⟩
      have kc : Has V G #[.int .i64 X0, .int .i64 Y0, .int .i64 X1, .int .i64 Y1] 23 := by rw [← hV]; exact has_new hG
      have hbV : Below w.heap.size w V := by rw [← hV]; exact B3.out.alloc B3.out.size _
      have hGl : w.heap.size ≤ G := by rw [← hG]; exact B3.out.size
      have BV := Lib.hid hbV
      have KC := Lib.hid kc
      have HV := Lib.hid hV
      have HGL := Lib.hid hGl
      clear kc hbV hV hGl
      go_upto_region 5 with fail
      rw [HV.out]
      clear hG
      have c1 := KC.out.cell 1 _ rfl
      go_wp2_with fail
      clear c1
      go_loopw [8, 9] (fun o i wr => ∃ n : Nat, Y0 ≤ n ∧ n ≤ Y1 ∧ i = .int .i64 n ∧ Town wr V.heap.size o (rowP P X1 n) ∧ Below V.heap.size V wr) (fun _ i _ => Y1 - (intOf i).toNat)
      case atStart => exact ⟨Y0, Nat.le_refl _, L2.out, rfl, by rw [rowP_none (fun x y hy => PY.out x y hy)]; exact Town.nil _ _, Below.refl _ _⟩
      case round =>
        obtain ⟨n, hn0, hn, rfl, hT, hb⟩ := hrel
        have hc := KC.out.below hb KC.out.lt
        have HT := Lib.hid hT
        have HB := Lib.hid hb
        have o0 : (Y1 : Int) ≤ 32 := by have := L4.out; omega
        have o1 : (X1 : Int) ≤ 32 := by have := L3.out; omega
        obtain ⟨ao, cap, e⟩ := hT.len
        obtain ⟨N, hN⟩ : ∃ N, (rowP P X1 n).length = N := ⟨_, rfl⟩
        rw [hN] at e
        subst e
        have c0 := hc.cell 0 _ rfl
        have c2 := hc.cell 2 _ rfl
        have c3 := hc.cell 3 _ rfl
        clear hT hb hc
        by_cases hlt : n < Y1
        · have o3 : (n : Int) < Y1 := by omega
          have NL : Hid ((rowP P X1 n).length ≤ 1024) := Lib.hid (by have := rowP_length P X1 n; have := L3.out; have := L4.out; have h1 : n * X1 ≤ 32 * 32 := Nat.mul_le_mul (by omega) (by omega); omega)
          obtain ⟨Q, hQ⟩ : ∃ Q, rowP P X1 n = Q := ⟨_, rfl⟩
          rw [hQ] at HT NL
          have HQ := Lib.hid hQ
          clear hQ hN
          go_wp2_with fail
          clear c0 c2 c3
          go_loopw [8, 10] (fun o i wr => ∃ k : Nat, X0 ≤ k ∧ k ≤ X1 ∧ i = .int .i64 k ∧ Town wr V.heap.size o (Q ++ colP P k n) ∧ Below V.heap.size V wr) (fun _ i _ => X1 - (intOf i).toNat)
          case atStart => exact ⟨X0, Nat.le_refl _, L1.out, rfl, by rw [colP_none (fun x hx => PX.out x n hx), List.append_nil]; exact HT.out, HB.out⟩
          case round =>
            obtain ⟨k, hk0, hk, rfl, hT, hb⟩ := hrel
            have hc := KC.out.below hb KC.out.lt
            have HT1 := Lib.hid hT
            have HB1 := Lib.hid hb
            obtain ⟨ao, cap, e⟩ := hT.len
            obtain ⟨N, hN⟩ : ∃ N, (Q ++ colP P k n).length = N := ⟨_, rfl⟩
            rw [hN] at e
            subst e
            have c2 := hc.cell 2 _ rfl
            clear hT hb hc
            by_cases hlk : k < X1
            · have o4 : (k : Int) < X1 := by omega
              have CS : Hid (Q ++ colP P (k + 1) n = (Q ++ colP P k n) ++ [⟨k, n⟩]) := Lib.hid (by rw [colP_succ, if_pos (PI.out k n hk0 hlk hn0 hlt), List.append_assoc])
              have QL : Hid ((Q ++ colP P k n).length ≤ 1000000) := Lib.hid (by have := NL.out; have := colP_length P k n; rw [List.length_append]; omega)
              clear hN
              obtain ⟨M, hM⟩ : ∃ M, Q ++ colP P k n = M := ⟨_, rfl⟩
              rw [hM] at HT1 CS QL
              go_wp2_with (at_builtin; refine wpList_append_t rfl _ _ rfl rfl wr.heap.size 1 rfl ⟨k, n⟩ (has_new rfl) QL.out (HT1.out.alloc _) ?c1 (HB1.out.alloc HB1.out.size _) (Nat.le_refl _) ?_)
              case c1 => have := HB1.out.size; simp; omega
              intro l' w4 hT4 hb4
              have T4 := Lib.hid hT4
              have B4 := Lib.hid hb4
              have HM := Lib.hid hM
              clear hT4 hb4 hM c2
              go_wp2
              go_roundw
              case rel => exact ⟨k + 1, by omega, by omega, by go_num, by rw [CS.out]; exact T4.out, B4.out⟩
              case measure => simp [intOf]; omega
            · obtain rfl : k = X1 := by omega
              have o4 : ¬ (k : Int) < k := by omega
              have RS : Hid (rowP P k (n + 1) = Q ++ colP P k n) := Lib.hid (by rw [rowP_succ, HQ.out])
              go_wp2
              go_roundw
              case rel => exact ⟨n + 1, by omega, by omega, by go_num, by rw [RS.out]; exact HT1.out, HB1.out⟩
              case measure => simp [intOf]; omega
        · obtain rfl : n = Y1 := by omega
          have o3 : ¬ (n : Int) < n := by omega
          go_wp2
          go_ret
          exact ⟨_, rfl, by rw [TLE.out]; exact HT.out.lower BV.out.size, BV.out.trans (HB.out.mono BV.out.size)⟩

end Go.Proofs.Ytnhnnkeakoakfaa

namespace Go.Proofs.Ytnhnnkeakoakfaa
open Go Go.RowKit
open M

theorem r14_size (m n : Int) (w : World) : Calls Try.prog 37 #[.int .i64 m, .int .i64 n] w fun r w' => r = .returned (.bool (sizeB m && sizeB n)) ∧ w = w' := by
  unfold sizeB
  by_cases h : 1 ≤ m
  · by_cases h2 : m ≤ 256
    · by_cases h3 : 1 ≤ n
      · go_enter Try.func37, Try.ntmps37
        go_wp2
        go_ret
        exact ⟨by simp [h, h2, h3], rfl⟩
      · go_enter Try.func37, Try.ntmps37
        go_wp2
        go_ret
        exact ⟨by simp; omega, rfl⟩
    · go_enter Try.func37, Try.ntmps37
      go_wp2
      go_ret
      exact ⟨by simp; omega, rfl⟩
  · go_enter Try.func37, Try.ntmps37
    go_wp2
    go_ret
    exact ⟨by simp; omega, rfl⟩

set_option maxHeartbeats 1000000 in
theorem r14_rect (x y : Nat) (wd ht : Int) (w : World) (hw : sizeB wd = true) (hh : sizeB ht = true) (hx : (x : Int) * 8 < wd) (hy : (y : Int) * 8 < ht) :
    Calls Try.prog 38 #[.agg #[.int .i64 (x : Int), .int .i64 (y : Int)], .int .i64 wd, .int .i64 ht] w fun r w' => r = .returned (.agg (bCells (rectB x y wd ht))) ∧ Below w.heap.size w w' := by
  obtain ⟨W, hW⟩ : ∃ W, (w.alloc (.cells #[.int .i64 (x : Int), .int .i64 (y : Int)] 45)).alloc (.cells #[.int .i64 0, .int .i64 0, .int .i64 0, .int .i64 0] 23) = W := ⟨_, rfl⟩
  obtain ⟨ha, hr, hb0⟩ := has_old hW
  obtain ⟨B, hB⟩ : ∃ B, w.heap.size = B := ⟨_, rfl⟩
  rw [hB] at ha hr
  have HB0 := Lib.hid hb0
  have HR := Lib.hid hr
  have HA := Lib.hid ha
  have HW := Lib.hid hW
  have SZ := Lib.hid (fun w => r14_size wd ht w)
  rw [hw, hh] at SZ
  have w2 := (sizeB_iff.1 hw).2
  have h2 := (sizeB_iff.1 hh).2
  have ME := Lib.hid (fun w => r14_meet ⟨(x : Int) * 8, (y : Int) * 8, (x : Int) * 8 + 8, (y : Int) * 8 + 8⟩ ⟨0, 0, wd, ht⟩ w)
  have HRE : Hid (rectB x y wd ht = meetB ⟨(x : Int) * 8, (y : Int) * 8, (x : Int) * 8 + 8, (y : Int) * 8 + 8⟩ ⟨0, 0, wd, ht⟩) := Lib.hid rfl
  obtain ⟨R, hR⟩ : ∃ R, rectB x y wd ht = R := ⟨_, rfl⟩
  rw [hR] at HRE ⊢
  rw [← HRE.out] at ME
  have a0 := ha.cell 0 _ rfl
  have a1 := ha.cell 1 _ rfl
  have o1 : (x : Int) < wd := by omega
  have o2 : (y : Int) < ht := by omega
  have o3 : (0 : Int) ≤ x := by omega
  have o4 : (0 : Int) ≤ y := by omega
  have o5 : (x : Int) ≤ 1000 := by omega
  have o6 : (y : Int) ≤ 1000 := by omega
  have HBQ := Lib.hid hB
  clear ha hr hb0 hW hw hh hR
  go_enter Try.func38, Try.ntmps38
  go_upto_region 1 with fail
  rw [HW.out]
  clear hB
  go_wp2_with fail
  refine (SZ.out _).mono ?_
  rintro r w1 ⟨rfl, rfl⟩
  go_wp2_with fail
  refine (ME.out _).mono ?_
  rintro r w2 ⟨rfl, hb⟩
  have HB1 := Lib.hid (HB0.out.trans (hb.mono HB0.out.size))
  have hr := HR.out.below hb HR.out.lt
  clear a0 a1 hb
  have r0 := hr.cell 0 _ rfl
  have r1 := hr.cell 1 _ rfl
  have r2 := hr.cell 2 _ rfl
  have r3 := hr.cell 3 _ rfl
  have fz := has_fro hr
  clear hr
  obtain ⟨z0, z1, z2, z3⟩ := R
  go_wp2
  refine bodyPost_ret (v := .agg #[.int .i64 z0, .int .i64 z1, .int .i64 z2, .int .i64 z3]) (by simp [results, Try.results38, go_sem, r0, r1, r2, r3]) rfl ⟨rfl, ?_⟩
  repeat (first | exact HB1.out | refine Below.setCell ?_ (show w.heap.size ≤ B + 1 by have := HBQ.out; omega) _)

set_option maxHeartbeats 4000000 in
theorem r14_tiles (b : Bo) (wd ht : Int) (w : World) : Calls Try.prog 24 #[.agg (bCells b), .int .i64 wd, .int .i64 ht] w (GivesT w (tilesL b wd ht)) := by
  obtain ⟨W, hW⟩ : ∃ W, w.alloc (.cells (bCells b) 23) = W := ⟨_, rfl⟩
  obtain ⟨B, hB⟩ : ∃ B, w.heap.size = B := ⟨_, rfl⟩
  have hr : Has W B (bCells b) 23 := by rw [← hW]; exact has_new hB
  have hb0 : Below w.heap.size w W := by rw [← hW]; exact (Below.refl _ _).alloc (Nat.le_refl _) _
  have HB0 := Lib.hid hb0
  have HA := Lib.hid hr
  have HW := Lib.hid hW
  have SZ := Lib.hid (fun w => r14_size wd ht w)
  obtain ⟨sz, hsz⟩ : ∃ s, (sizeB wd && sizeB ht) = s := ⟨_, rfl⟩
  rw [hsz] at SZ
  have HSZ := Lib.hid hsz
  clear hW hr hb0 hsz
  go_enter Try.func24, Try.ntmps24
  go_upto_region 2 with fail
  rw [HW.out]
  clear hB
  cases sz
  · go_wp2_with fail
    refine (SZ.out _).mono ?_
    rintro r w1 ⟨rfl, rfl⟩
    go_wp2
    go_ret
    exact ⟨_, rfl, by rw [tilesL_no HSZ.out]; exact Town.nil _ _, HB0.out⟩
  · go_wp2_with fail
    refine (SZ.out _).mono ?_
    rintro r w1 ⟨rfl, rfl⟩
    have hs := HSZ.out
    rw [Bool.and_eq_true] at hs
    have SW := Lib.hid hs.1
    have SH := Lib.hid hs.2
    have hw := sizeB_iff.1 hs.1
    have hh := sizeB_iff.1 hs.2
    obtain ⟨K, hK⟩ : ∃ K : Nat, ((wd + 7) / 8).toNat = K := ⟨_, rfl⟩
    obtain ⟨H, hH⟩ : ∃ H : Nat, ((ht + 7) / 8).toNat = H := ⟨_, rfl⟩
    have k1 : K ≤ 32 := by omega
    have k2 : H ≤ 32 := by omega
    have TLE := Lib.hid (tilesL_all (b := b) hw hh (K := K) (H := H) (by omega) (by omega) k1 k2)
    have RT : Hid (∀ x y : Nat, (x : Int) * 8 < wd → (y : Int) * 8 < ht → emptyB (meetB b (rectB x y wd ht)) = !tileP (inT (onB b wd ht)) x y) := Lib.hid (fun x y hx hy => rect_tile b hx hy)
    obtain ⟨P, hP⟩ : ∃ P, tileP (inT (onB b wd ht)) = P := ⟨_, rfl⟩
    rw [hP] at TLE RT
    have KX : Hid (∀ n : Nat, n < K ↔ (n : Int) * 8 < wd) := Lib.hid (fun n => by omega)
    have HX : Hid (∀ n : Nat, n < H ↔ (n : Int) * 8 < ht) := Lib.hid (fun n => by omega)
    have K1 := Lib.hid k1
    have K2 := Lib.hid k2
    have WB := Lib.hid hw
    have HBD := Lib.hid hh
    clear hs hw hh hK hH k1 k2 hP
    go_wp2_with fail
    go_loopw [7, 8] (fun o i wr => ∃ n : Nat, n ≤ H ∧ i = .int .i64 n ∧ Town wr W.heap.size o (rowP P K n) ∧ Below W.heap.size W wr) (fun _ i _ => H - (intOf i).toNat)
    case atStart => exact ⟨0, by omega, rfl, Town.nil _ _, Below.refl _ _⟩
    case round =>
      obtain ⟨n, hn, rfl, hT, hb⟩ := hrel
      have HT := Lib.hid hT
      have HB := Lib.hid hb
      have o0 : (n : Int) ≤ 32 := by have := K2.out; omega
      have o1 : (0 : Int) ≤ n := by omega
      obtain ⟨ao, cap, e⟩ := hT.len
      obtain ⟨N, hN⟩ : ∃ N, (rowP P K n).length = N := ⟨_, rfl⟩
      rw [hN] at e
      subst e
      clear hT hb
      by_cases hlt : n < H
      · have o3 : (n : Int) * 8 < ht := (HX.out n).1 hlt
        have NL : Hid ((rowP P K n).length ≤ 1024) := Lib.hid (by have := rowP_length P K n; have := K1.out; have := K2.out; have h1 : n * K ≤ 32 * 32 := Nat.mul_le_mul (by omega) (by omega); omega)
        obtain ⟨Q, hQ⟩ : ∃ Q, rowP P K n = Q := ⟨_, rfl⟩
        rw [hQ] at HT NL
        have HQ := Lib.hid hQ
        clear hQ hN
        go_wp2_with fail
        go_loopw [7, 9] (fun o i wr => ∃ k : Nat, k ≤ K ∧ i = .int .i64 k ∧ Town wr W.heap.size o (Q ++ colP P k n) ∧ Below W.heap.size W wr) (fun _ i _ => K - (intOf i).toNat)
        case atStart => exact ⟨0, by omega, rfl, by rw [colP_zero, List.append_nil]; exact HT.out, HB.out⟩
        case round =>
          obtain ⟨k, hk, rfl, hT, hb⟩ := hrel
          have hc := HA.out.below hb HA.out.lt
          have HT1 := Lib.hid hT
          have HB1 := Lib.hid hb
          have o4 : (k : Int) ≤ 32 := by have := K1.out; omega
          have o5 : (0 : Int) ≤ k := by omega
          obtain ⟨ao, cap, e⟩ := hT.len
          obtain ⟨N, hN⟩ : ∃ N, (Q ++ colP P k n).length = N := ⟨_, rfl⟩
          rw [hN] at e
          subst e
          clear hT hb
          by_cases hlk : k < K
          · have o6 : (k : Int) * 8 < wd := (KX.out k).1 hlk
            have CS : Hid (Q ++ colP P (k + 1) n = (Q ++ colP P k n) ++ (if P k n = true then [⟨k, n⟩] else [])) := Lib.hid (by rw [colP_succ, List.append_assoc])
            have QL : Hid ((Q ++ colP P k n).length ≤ 1000000) := Lib.hid (by have := NL.out; have := colP_length P k n; have := K1.out; rw [List.length_append]; omega)
            have RK := RT.out k n o6 o3
            have RC := Lib.hid (fun w => r14_rect k n wd ht w SW.out SH.out o6 o3)
            obtain ⟨R, hR⟩ : ∃ R, rectB k n wd ht = R := ⟨_, rfl⟩
            rw [hR] at RK RC
            have MC := Lib.hid (fun w => r14_meet b R w)
            obtain ⟨Mb, hMb⟩ : ∃ M, meetB b R = M := ⟨_, rfl⟩
            rw [hMb] at RK MC
            have EC := Lib.hid (fun w => r14_empty Mb w)
            obtain ⟨e, he⟩ : ∃ e, P k n = e := ⟨_, rfl⟩
            rw [he] at RK CS
            rw [RK] at EC
            obtain ⟨M, hM⟩ : ∃ M, Q ++ colP P k n = M := ⟨_, rfl⟩
            rw [hM] at HT1 CS QL
            have HC := Lib.hid hc
            clear hc hN RK hR hMb he hM
            obtain ⟨x0, y0, x1, y1⟩ := b
            go_upto_region 10 with fail
            have r0 := Later.read HC.out 0 _ rfl
            have r1 := Later.read HC.out 1 _ rfl
            have r2 := Later.read HC.out 2 _ rfl
            have r3 := Later.read HC.out 3 _ rfl
            refine wp_region_class (C := fun w' => ∃ z : Later wr, w' = z.to) (by kernel_rfl) (by kernel_rfl) ⟨⟨_, below_drew (Below.refl _ _)⟩, rfl⟩ ?_
            repeat (go_big_quiet_step (first | (go_at_call 38; exact Later.calls (RC.out _)) | (go_at_call 22; exact Later.calls (MC.out _)) | (go_at_call 20; exact Later.calls (EC.out _))))
            refine wpQuiet_nil ?_
            rintro _ ⟨z, rfl⟩
            clear r0 r1 r2 r3
            obtain ⟨Y, hY⟩ : ∃ Y, z.to = Y := ⟨_, rfl⟩
            have B2 := Lib.hid (show Below W.heap.size W Y by rw [← hY]; exact HB1.out.trans (z.below.mono HB1.out.size))
            have T2 := Lib.hid (show Town Y W.heap.size _ M by rw [← hY]; exact HT1.out.below z.below (Nat.le_refl _))
            rw [hY]
            clear hY z
            cases e
            · have CS2 : Hid (Q ++ colP P (k + 1) n = M) := Lib.hid (by rw [CS.out]; simp)
              go_wp2
              go_roundw
              case rel => exact ⟨k + 1, by omega, by go_num, by rw [CS2.out]; exact T2.out, B2.out⟩
              case measure => simp [intOf]; omega
            · have CS2 : Hid (Q ++ colP P (k + 1) n = M ++ [⟨k, n⟩]) := Lib.hid (by rw [CS.out]; simp)
              go_wp2_with (at_builtin; refine wpList_append_t rfl _ _ rfl rfl Y.heap.size 1 rfl ⟨k, n⟩ (has_new rfl) QL.out (T2.out.alloc _) ?c1 (B2.out.alloc B2.out.size _) (Nat.le_refl _) ?_)
              case c1 => have := B2.out.size; simp; omega
              intro l' w4 hT4 hb4
              have T4 := Lib.hid hT4
              have B4 := Lib.hid hb4
              clear hT4 hb4
              go_wp2
              go_roundw
              case rel => exact ⟨k + 1, by omega, by go_num, by rw [CS2.out]; exact T4.out, B4.out⟩
              case measure => simp [intOf]; omega
          · obtain rfl : k = K := by omega
            have o6 : ¬ (k : Int) * 8 < wd := fun h => by have := (KX.out k).2 h; omega
            have RS : Hid (rowP P k (n + 1) = Q ++ colP P k n) := Lib.hid (by rw [rowP_succ, HQ.out])
            clear hc
            go_wp2
            go_roundw
            case rel => exact ⟨n + 1, by omega, by go_num, by rw [RS.out]; exact HT1.out, HB1.out⟩
            case measure => simp [intOf]; omega
      · obtain rfl : n = H := by omega
        have o3 : ¬ (n : Int) * 8 < ht := fun h => by have := (HX.out n).2 h; omega
        go_wp2
        go_ret
        exact ⟨_, rfl, by rw [TLE.out]; exact HT.out.lower HB0.out.size, HB0.out.trans (HB.out.mono HB0.out.size)⟩

end Go.Proofs.Ytnhnnkeakoakfaa

namespace Go.Proofs.Ytnhnnkeakoakfaa
open Go Go.RowKit

section
variable {P : Program} (w : World)
theorem run_equalIn_self {t e : TypeId} {k : IntKind} (D n : Nat) (ht : P.underlying t = some (.array n e)) (he : P.underlying e = some (.int k)) (hs : (sizeOf e).run P w = .ok 1 w) (A : Array Value) (hA : ∀ i, i < n → ∃ x : Int, A[i]? = some (.int k x)) :
    (Op.equalIn (D + 1 + 1) t (.agg A) (.agg A)).run P w = .ok true w := by
  have hp : P.plainKey e = true := by simp [Program.plainKey, he]
  have q : ∀ (x y : Int), (Op.equalIn (D + 1) e (.int k x) (.int k y)).run P w = .ok (x == y) w := fun x y => run_equalIn_int w D e k k x y he
  have pt : ∀ i x, A[i]? = some x → (part e A i).run P w = .ok x w := fun i x h => run_part_plain w hp h
  rw [Op.equalIn]
  simp only [Sem.run_bind, run_underlying ht, Result.andThen_ok, hs, Std.Legacy.Range.forIn_eq_forIn_range', Std.Legacy.Range.size, Nat.sub_zero, Nat.add_sub_cancel, Nat.div_one]
  have loop : ∀ (l : List Nat), (∀ i ∈ l, i < n) → Sem.run P (forIn l ((none : Option Bool), ()) fun i __s => do
        let __do_lift ← part e A (i * 1)
        let __do_lift_1 ← part e A (i * 1)
        let __do_lift ← Op.equalIn (D + 1) e __do_lift __do_lift_1
        if (!__do_lift) = true then pure (ForInStep.done (some false, ())) else pure (ForInStep.yield (none, ()))) w = .ok (none, ()) w := by
    intro l
    induction l with
    | nil => intro _; simp
    | cons i l ih =>
      intro hl
      obtain ⟨x, hx⟩ := hA i (hl i (by simp))
      have ih' := ih (fun j hj => hl j (List.mem_cons_of_mem _ hj))
      simp only [List.forIn_cons, Sem.run_bind, Nat.mul_one, pt i _ hx, Result.andThen_ok, q, beq_self_eq_true, Bool.not_true, Bool.false_eq_true, if_false, Sem.run_pure]
      simpa using ih'
  rw [loop _ (fun i hi => by simpa using hi)]
  simp
end

end Go.Proofs.Ytnhnnkeakoakfaa

namespace Go.Proofs.Ytnhnnkeakoakfaa
open Go Go.RowKit
open M

theorem size_int (w : World) : (sizeOf 3).run Try.prog w = .ok 1 w := by
  have h : (Try.prog.info? 3).map (fun i => i.size) = some 1 := by kernel_rfl
  cases hi : Try.prog.info? 3 with
  | none => rw [hi] at h; cases h
  | some i =>
    rw [hi] at h
    have hs : i.size = 1 := by simpa using h
    simp only [sizeOf, Sem.run_bind, run_typeInfo w hi, Result.andThen_ok, hs, Sem.run_pure]
theorem eq_tile (w : World) (x y : Int) : (Op.equalIn 10000 45 (.agg #[.int .i64 x, .int .i64 y]) (.agg #[.int .i64 x, .int .i64 y])).run Try.prog w = .ok true w :=
  run_equalIn_self w 9998 2 Try.underlying45 Try.underlying3 (size_int w) _ (fun i hi => by rcases (show i = 0 ∨ i = 1 by omega) with rfl | rfl <;> exact ⟨_, rfl⟩)
attribute [local go_sem] eq_tile
theorem kn14_tiles : tilesL ⟨0, 0, 9, 1⟩ 16 16 = [⟨0, 0⟩, ⟨1, 0⟩] := by decide +kernel
theorem kn14_box : boxP [⟨1, 0⟩, ⟨-1, 65536⟩] = ⟨-1, 0, 1, 1⟩ := by decide +kernel

set_option maxHeartbeats 4000000 in
set_option maxRecDepth 100000 in
set_option maxHeartbeats 4000000 in
theorem known14 (w : World) : Calls Try.prog 13 #[] w fun e w' => e = .returned (.bool true) ∧ Below w.heap.size w w' := by
  have TT := Lib.hid (fun w => kn14_tiles ▸ b_tiles ⟨0, 0, 9, 1⟩ 16 16 w)
  go_enter Try.func13, Try.ntmps13
  go_wp2_with fail
  refine (TT.out _).mono ?_
  rintro r w1 ⟨v, rfl, hT, hb⟩
  obtain ⟨ao, cap, e⟩ := hT.len
  have e' : v = .slice ao 2 cap := e
  subst e'
  have HT := Lib.hid hT
  have HB := Lib.hid hb
  clear hT hb e
  go_wp2_with fail
  obtain ⟨W, hW⟩ : ∃ W, (w1.alloc (.cells #[.int .i64 1, .int .i64 0, .int .i64 (-1), .int .i64 65536] 36)).alloc (.cells #[.bool false, .slice (some ⟨w1.heap.size, 0, none⟩) 2 2] 34) = W := ⟨_, rfl⟩
  obtain ⟨ha, hr, hb0⟩ := has_old hW
  have hp : Psl W (.slice (some ⟨w1.heap.size, 0, none⟩) 2 2) [⟨1, 0⟩, ⟨-1, 65536⟩] := psl_lit 2 2 rfl (by decide) ha rfl
  have hy := ysl_one hp hr
  have OF := b_of hy (by
    intro p hp
    have : p = ⟨1, 0⟩ ∨ p = ⟨-1, 65536⟩ := by simpa [ptsN, po] using hp
    rcases this with rfl | rfl <;> simp [I64])
  have e3 : ptsN [(⟨false, .slice (some ⟨w1.heap.size, 0, none⟩) 2 2, [⟨1, 0⟩, ⟨-1, 65536⟩]⟩ : Po)] 1 = [⟨1, 0⟩, ⟨-1, 65536⟩] := rfl
  rw [show [(⟨false, .slice (some ⟨w1.heap.size, 0, none⟩) 2 2, [⟨1, 0⟩, ⟨-1, 65536⟩]⟩ : Po)].length = 1 from rfl, e3, kn14_box] at OF
  have HB2 := Lib.hid (HB.out.trans (hb0.mono HB.out.size))
  have HT2 := Lib.hid (HT.out.below hb0 (Nat.le_refl _))
  rw [hW]
  clear ha hr hb0 hp hy e3 hW HB HT
  refine OF.mono ?_
  rintro r w2 ⟨rfl, hb2⟩
  have HB3 := Lib.hid (HB2.out.trans (hb2.mono HB2.out.size))
  have HT3 := Lib.hid (HT2.out.below hb2 (Nat.le_refl _))
  clear hb2 OF
  obtain ⟨V, hV⟩ : ∃ V, w2.alloc (.cells #[.int .i64 (-1), .int .i64 0, .int .i64 1, .int .i64 1] 23) = V := ⟨_, rfl⟩
  obtain ⟨G, hG⟩ : ∃ G, w2.heap.size = G := ⟨_, rfl⟩
  have hk : Has V G #[.int .i64 (-1), .int .i64 0, .int .i64 1, .int .i64 1] 23 := by rw [← hV]; exact has_new hG
  have hbv : Below w2.heap.size w2 V := by rw [← hV]; exact (Below.refl _ _).alloc (Nat.le_refl _) _
  have HB4 := Lib.hid (HB3.out.trans (hbv.mono HB3.out.size))
  have ht := (HT3.out.below hbv (Nat.le_refl _)).sl (by decide)
  have HK := Lib.hid hk
  have HV := Lib.hid hV
  obtain ⟨g, o, e, row, -⟩ := ht.row (by decide)
  subst e
  have c0 : V.cell? ⟨g, o, none⟩ = some (.int .i64 0) := row.c0 0 (by decide)
  have c1 : V.cell? ⟨g, o + 1, none⟩ = some (.int .i64 0) := row.c1 0 (by decide)
  have d0 : V.cell? ⟨g, o + 2, none⟩ = some (.int .i64 1) := row.c0 1 (by decide)
  have d1 : V.cell? ⟨g, o + 3, none⟩ = some (.int .i64 0) := row.c1 1 (by decide)
  have b0 := hk.cell 0 _ rfl
  have b1 := hk.cell 1 _ rfl
  have b2 := hk.cell 2 _ rfl
  have b3 := hk.cell 3 _ rfl
  clear hV hk hbv ht row HB2 HT2 HB3 HT3
  go_upto_region 3 with fail
  rw [HV.out]
  clear hG
  have EM := Lib.hid (fun w => b_empty ⟨0, 0, 0, 0⟩ w)
  have H0 := Lib.hid (fun w => b_has ⟨-1, 0, 1, 1⟩ 0 0 w)
  have H1 := Lib.hid (fun w => b_has ⟨-1, 0, 1, 1⟩ 1 0 w)
  rw [show emptyB ⟨0, 0, 0, 0⟩ = true by decide] at EM
  rw [show hasB ⟨-1, 0, 1, 1⟩ 0 0 = true by decide] at H0
  rw [show hasB ⟨-1, 0, 1, 1⟩ 1 0 = false by decide] at H1
  go_wp2_with fail
  refine (EM.out _).mono ?_
  rintro r w5 ⟨rfl, hb5⟩
  have B5 := Lib.hid (HB4.out.trans (hb5.mono HB4.out.size))
  have K5 := Lib.hid (HK.out.below hb5 HK.out.lt)
  clear c0 c1 d0 d1 b0 b1 b2 b3 hb5
  have b0 := K5.out.cell 0 _ rfl
  have b1 := K5.out.cell 1 _ rfl
  have b2 := K5.out.cell 2 _ rfl
  have b3 := K5.out.cell 3 _ rfl
  go_wp2_with fail
  refine (H0.out _).mono ?_
  rintro r w6 ⟨rfl, hb6⟩
  have B6 := Lib.hid (B5.out.trans (hb6.mono B5.out.size))
  have K6 := Lib.hid (K5.out.below hb6 K5.out.lt)
  clear b0 b1 b2 b3 hb6
  have b0 := K6.out.cell 0 _ rfl
  have b1 := K6.out.cell 1 _ rfl
  have b2 := K6.out.cell 2 _ rfl
  have b3 := K6.out.cell 3 _ rfl
  go_wp2_with fail
  refine (H1.out _).mono ?_
  rintro r w7 ⟨rfl, hb7⟩
  have B7 := Lib.hid (B6.out.trans (hb7.mono B6.out.size))
  go_wp2
  go_ret
  exact ⟨rfl, B7.out⟩

end Go.Proofs.Ytnhnnkeakoakfaa

namespace Go.Proofs.Ytnhnnkeakoakfaa
open Go Go.RowKit
open M
attribute [local go_sem] eq_tile

set_option maxHeartbeats 4000000 in
theorem l14_boxes (a b : Bo) (x y : Int) (w : World) : Calls Try.prog 7 #[.agg (bCells a), .agg (bCells b), .int .i64 x, .int .i64 y] w fun e w' => e = .returned (.bool true) ∧ Below w.heap.size w w' := by
  obtain ⟨W, hW⟩ : ∃ W, (w.alloc (.cells (bCells a) 23)).alloc (.cells (bCells b) 23) = W := ⟨_, rfl⟩
  obtain ⟨ha, hb, hb0⟩ := has_old hW
  obtain ⟨B, hB⟩ : ∃ B, w.heap.size = B := ⟨_, rfl⟩
  rw [hB] at ha hb
  have HB0 := Lib.hid hb0
  have HA := Lib.hid ha
  have HBB := Lib.hid hb
  have HW := Lib.hid hW
  have E1 := Lib.hid (fun w => b_empty a w)
  have E2 := Lib.hid (fun w => r14_empty a w)
  have J1 := Lib.hid (fun w => b_join a b w)
  have J2 := Lib.hid (fun w => r14_join a b w)
  have M1 := Lib.hid (fun w => b_meet a b w)
  have M2 := Lib.hid (fun w => r14_meet a b w)
  have H1 := Lib.hid (fun w => b_has a x y w)
  have H2 := Lib.hid (fun w => r14_has a x y w)
  obtain ⟨e, he⟩ : ∃ e, emptyB a = e := ⟨_, rfl⟩
  obtain ⟨j, hj⟩ : ∃ j, joinB a b = j := ⟨_, rfl⟩
  obtain ⟨m, hm⟩ : ∃ m, meetB a b = m := ⟨_, rfl⟩
  obtain ⟨h, hh⟩ : ∃ h, hasB a x y = h := ⟨_, rfl⟩
  rw [he] at E1 E2
  rw [hj] at J1 J2
  rw [hm] at M1 M2
  rw [hh] at H1 H2
  obtain ⟨x0, y0, x1, y1⟩ := a
  obtain ⟨p0, q0, p1, q1⟩ := b
  obtain ⟨j0, j1, j2, j3⟩ := j
  obtain ⟨m0, m1, m2, m3⟩ := m
  clear ha hb hb0 hW he hj hm hh
  go_enter Try.func7, Try.ntmps7
  go_upto_region 1 with fail
  rw [HW.out]
  clear hB
  have a0 := Later.read HA.out 0 _ rfl
  have a1 := Later.read HA.out 1 _ rfl
  have a2 := Later.read HA.out 2 _ rfl
  have a3 := Later.read HA.out 3 _ rfl
  have b0 := Later.read HBB.out 0 _ rfl
  have b1 := Later.read HBB.out 1 _ rfl
  have b2 := Later.read HBB.out 2 _ rfl
  have b3 := Later.read HBB.out 3 _ rfl
  refine wp_region_class (C := fun w' => ∃ z : Later W, w' = z.to) (by kernel_rfl) (by kernel_rfl) ⟨⟨_, below_drew (Below.refl _ _)⟩, rfl⟩ ?_
  repeat (go_big_quiet_step (first | (go_at_call 19; exact Later.calls (E1.out _)) | (go_at_call 20; exact Later.calls (E2.out _)) | (go_at_call 18; exact Later.calls (J1.out _)) | (go_at_call 21; exact Later.calls (J2.out _)) | (go_at_call 17; exact Later.calls (M1.out _)) | (go_at_call 22; exact Later.calls (M2.out _)) | (go_at_call 16; exact Later.calls (H1.out _)) | (go_at_call 23; exact Later.calls (H2.out _))))
  refine wpQuiet_nil ?_
  rintro _ ⟨z, rfl⟩
  have BZ := Lib.hid (HB0.out.trans (z.below.mono HB0.out.size))
  clear a0 a1 a2 a3 b0 b1 b2 b3
  go_wp2
  go_ret
  exact ⟨rfl, BZ.out⟩

/-- Two lists that are the same places. -/
structure TwoL (L : List Pt) (i j : Nat) (G : Nat → Option Value) (w : World) : Prop where
  a : ∀ v, G i = some v → Psl w v L
  b : ∀ v, G j = some v → Psl w v L
theorem TwoL.none {L : List Pt} {i j : Nat} {w : World} : TwoL L i j (fun _ => .none) w := ⟨fun v e => by simp at e, fun v e => by simp at e⟩
theorem TwoL.stay {L : List Pt} {i j : Nat} {G : Nat → Option Value} {w w' : World} (h : TwoL L i j G w) (hb : Below w.heap.size w w') : TwoL L i j G w' := ⟨fun v e => (h.a v e).below hb (Nat.le_refl _), fun v e => (h.b v e).below hb (Nat.le_refl _)⟩
theorem TwoL.upd {L : List Pt} {i j k : Nat} {G : Nat → Option Value} {w : World} {v : Value} (h : TwoL L i j G w) (hv : Psl w v L) : TwoL L i j (updV G k v) w := by
  refine ⟨fun u e => ?_, fun u e => ?_⟩
  · unfold updV at e
    split at e
    · simp at e; subst e; exact hv
    · exact h.a u e
  · unfold updV at e
    split at e
    · simp at e; subst e; exact hv
    · exact h.b u e
set_option maxHeartbeats 4000000 in
theorem l14_tiles (b : Bo) (wd ht : Int) (w : World) : Calls Try.prog 8 #[.agg (bCells b), .int .i64 wd, .int .i64 ht] w fun e w' => e = .returned (.bool true) ∧ Below w.heap.size w w' := by
  obtain ⟨W, hW⟩ : ∃ W, w.alloc (.cells (bCells b) 23) = W := ⟨_, rfl⟩
  obtain ⟨B, hB⟩ : ∃ B, w.heap.size = B := ⟨_, rfl⟩
  have hr : Has W B (bCells b) 23 := by rw [← hW]; exact has_new hB
  have hb0 : Below w.heap.size w W := by rw [← hW]; exact (Below.refl _ _).alloc (Nat.le_refl _) _
  have HB0 := Lib.hid hb0
  have HA := Lib.hid hr
  have HW := Lib.hid hW
  have T1 := Lib.hid (fun w => b_tiles b wd ht w)
  have T2 := Lib.hid (fun w => r14_tiles b wd ht w)
  have LL : Hid ((tilesL b wd ht).length ≤ 1024) := Lib.hid (by
    unfold tilesL
    split
    · exact rowP_length _ 32 32
    · simp)
  obtain ⟨L, hL⟩ : ∃ L, tilesL b wd ht = L := ⟨_, rfl⟩
  rw [hL] at T1 T2 LL
  obtain ⟨x0, y0, x1, y1⟩ := b
  clear hr hb0 hW hL
  go_enter Try.func8, Try.ntmps8
  go_upto_region 1 with fail
  rw [HW.out]
  clear hB
  refine wp_region_gen 8 [3, 7] [] [0, 0, 0, 1, 0, 0, 0, 1] (by kernel_rfl) (by kernel_rfl) (fun c a d v w h => by cases d <;> exact h) trivial (TwoL L 3 7) (fun G w w' h hb => h.stay hb) TwoL.none ?_
  apply Exists.intro
  refine ⟨fun R hR hN => ?_, ?_, ?_⟩
  · have a0 := fun z => LaterR.read (R := R) HA.out 0 _ rfl z
    have a1 := fun z => LaterR.read (R := R) HA.out 1 _ rfl z
    have a2 := fun z => LaterR.read (R := R) HA.out 2 _ rfl z
    have a3 := fun z => LaterR.read (R := R) HA.out 3 _ rfl z
    simp only [quietL, takeA]
    repeat (go_big_quiet_step (fail))
    exact wpQuiet_nil rfl
  · intro i oo hi ho
    have hi' : i = 3 ∨ i = 7 := by simpa using hi
    clear hi
    rcases hi' with rfl | rfl
    · cases ho
      intro G w' hG hGn hdep hb hR
      refine ⟨rfl, gives_none (by kernel_rfl) hGn ?_⟩
      unfold gives
      simp [go_sem]
      refine (T1.out w').mono ?_
      rintro e w'' ⟨v, rfl, hT, hb2⟩
      exact ⟨_, rfl, hb.trans (hb2.mono hb.size), (hR.stay hb2).upd (hT.sl (by have := LL.out; omega))⟩
    · cases ho
      intro G w' hG hGn hdep hb hR
      refine ⟨rfl, gives_none (by kernel_rfl) hGn ?_⟩
      unfold gives
      simp [go_sem]
      refine (T2.out w').mono ?_
      rintro e w'' ⟨v, rfl, hT, hb2⟩
      exact ⟨_, rfl, hb.trans (hb2.mono hb.size), (hR.stay hb2).upd (hT.sl (by have := LL.out; omega))⟩
  · intro G w2 hb hR hG hN
    obtain ⟨v3, e3⟩ := hG 3 (by simp)
    obtain ⟨v7, e7⟩ := hG 7 (by simp)
    have p3 := hR.a _ e3
    have p7 := hR.b _ e7
    simp only [putV, dstAt, e3, e7, hN 0 (by simp), hN 1 (by simp), hN 2 (by simp), hN 4 (by simp), hN 5 (by simp), hN 6 (by simp), List.drop_succ_cons, List.drop_zero, List.getElem?_cons_succ, List.getElem?_cons_zero, Option.bind_some]
    obtain ⟨N, hN2⟩ : ∃ N, L.length = N := ⟨_, rfl⟩
    obtain ⟨a3, c3, s3⟩ : ∃ ao cap, v3 = .slice ao N cap := by obtain ⟨ao, cap, e, _⟩ := p3; rw [hN2] at e; exact ⟨_, _, e⟩
    obtain ⟨a7, c7, s7⟩ : ∃ ao cap, v7 = .slice ao N cap := by obtain ⟨ao, cap, e, _⟩ := p7; rw [hN2] at e; exact ⟨_, _, e⟩
    subst s3 s7
    have P3 := Lib.hid p3
    have P7 := Lib.hid p7
    have HN := Lib.hid hN2
    have BB := Lib.hid (HB0.out.trans (hb.mono HB0.out.size))
    have o0 : (N : Int) ≤ 1024 := by have := LL.out; omega
    clear hb hR hG hN e3 e7 p3 p7 hN2
    go_wp2_with fail
    go_loopw [25] (fun i wr => ∃ n : Nat, n ≤ N ∧ i = .int .i64 n ∧ Below w2.heap.size w2 wr) (fun i _ => N - (intOf i).toNat)
    case atStart => exact ⟨0, by omega, rfl, Below.refl _ _⟩
    case round =>
      obtain ⟨n, hn, rfl, hb⟩ := hrel
      have HB := Lib.hid hb
      by_cases hlt : n < N
      · obtain ⟨g, o, e, r3, -⟩ := (P3.out.below hb (Nat.le_refl _)).row (by omega)
        obtain ⟨g', o', e', r7, -⟩ := (P7.out.below hb (Nat.le_refl _)).row (by omega)
        subst e e'
        obtain ⟨q, hq⟩ : ∃ q, pt L n = q := ⟨_, rfl⟩
        have c0 := r3.c0 n (by rw [HN.out]; exact hlt)
        have c1 := r3.c1 n (by rw [HN.out]; exact hlt)
        have d0 := r7.c0 n (by rw [HN.out]; exact hlt)
        have d1 := r7.c1 n (by rw [HN.out]; exact hlt)
        rw [hq] at c0 c1 d0 d1
        obtain ⟨qx, qy⟩ := q
        simp only at c0 c1 d0 d1
        have o3 : (n : Int) < N := by omega
        clear hb r3 r7 hq
        go_wp2_with fail
        go_quiet (fail)
        go_wp2
        go_roundw
        case rel => exact ⟨n + 1, by omega, by go_num, below_drewN HB.out _⟩
        case measure => simp [intOf]; omega
      · obtain rfl : n = N := by omega
        have o3 : ¬ (n : Int) < n := by omega
        go_wp2
        go_ret
        exact ⟨rfl, BB.out.trans (HB.out.mono BB.out.size)⟩

end Go.Proofs.Ytnhnnkeakoakfaa

namespace Go.Proofs.Ytnhnnkeakoakfaa
open Go Go.RowKit
open M

/-- Numbers of the call's own. -/
def Iown (w : World) (base : Nat) (v : Value) (xs : List Int) : Prop := w.ownsRow base 3 1 v xs.length (xs.map (Value.int .i64))
theorem Iown.nums {w : World} {B : Nat} {v : Value} {xs : List Int} (h : Iown w B v xs) (hf : xs.length ≤ 1000) : Nums w v := by
  rcases h.2 with ⟨rfl, hn⟩ | ⟨g, cap, cur, rfl, _, hg, _, _, _, ht⟩
  · exact Or.inl ⟨_, _, rfl⟩
  · by_cases h0 : xs.length = 0
    · rw [h0]; exact Or.inl ⟨_, _, rfl⟩
    · refine Or.inr ⟨g, 0, _, cap, rfl, by omega, by omega, fun i hi => ?_⟩
      have hu : (xs.map (Value.int .i64))[i]? = some (.int .i64 (xs.getD i 0)) := by simp [List.getD, hi]
      refine ⟨xs.getD i 0, ?_⟩
      rw [Nat.zero_add, cell_of_row w g i cur _ _ hg]
      rw [← ht, List.getElem?_take] at hu
      split at hu
      · simpa using hu
      · cases hu
theorem Try.infoInt : (Try.prog.info? 3).map (fun i => (i.zero, i.size, i.bytes)) = some (some (.int .i64 0), 1, 8) := by kernel_rfl

theorem Nums.on {w w' : World} {v : Value} (h : Nums w v) (hb : Below w.heap.size w w') : Nums w' v := by
  rcases h with h | ⟨b, o, n, cap, hv, h0, h1, hc⟩
  · exact Or.inl h
  · refine Or.inr ⟨b, o, n, cap, hv, h0, h1, fun i hi => ?_⟩
    obtain ⟨x, hx⟩ := hc i hi
    exact ⟨x, (hb.cell (p := ⟨b, _, _⟩) (World.block_lt_of_cell? w _ hx)).trans hx⟩
theorem new_one {w : World} {x : Value} {t : TypeId} {g : Nat} (hg : w.heap.size = g) : ∀ j u, [x][j]? = some u → (w.alloc (.cells #[x] t)).cell? ((⟨g, 0, none⟩ : Addr).add j) = some u := by
  intro j u hu
  rw [Addr.add_lit, Nat.zero_add]
  exact (has_new hg).cell j u (by simpa using hu)
theorem Iown.alloc {w : World} {B : Nat} {v : Value} {xs : List Int} (h : Iown w B v xs) (o : Obj) : Iown (w.alloc o) B v xs := World.ownsRow.alloc h o
theorem Iown.base {w : World} {B : Nat} {v : Value} {xs : List Int} (h : Iown w B v xs) (k : Nat) (hk : v.ownBlock = some k) : B ≤ k ∧ k < w.heap.size := World.ownsRow.lt h k hk
theorem ones_one (x : Int) : ∀ u ∈ [Value.int .i64 x], u.oneCell' = true := by
  intro u hu
  simp at hu
  subst hu
  rfl

end Go.Proofs.Ytnhnnkeakoakfaa

namespace Go.Proofs.Ytnhnnkeakoakfaa
open Go Go.RowKit
open M

def Tapess (w : World) (e : Ending) (w' : World) : Prop := ∃ (g : Nat) (v : Value), e = .returned (.pointer (some ⟨g, 0, none⟩)) ∧ Tp w' g v ∧ w.heap.size ≤ g ∧ Below w.heap.size w w'

set_option maxRecDepth 100000 in
set_option maxHeartbeats 2000000 in
theorem l14_tapes (k : Nat) (hk : k ≤ 40) (w : World) : Calls Try.prog 10 #[.int .i64 (k : Int)] w (Tapess w) := by
  obtain ⟨j0, hj, hy0, hy1, hy2⟩ := info_parts Try.infoInt
  obtain ⟨B, hB⟩ : ∃ B, w.heap.size = B := ⟨_, rfl⟩
  have HB := Lib.hid hB
  clear hB
  have ok : (k : Int) ≤ 40 := by omega
  go_enter Try.func10, Try.ntmps10
  go_wp2_with fail
  go_loopw [3, 4] (fun t i wr => ∃ (q : Nat) (xs : List Int), q ≤ 90 ∧ i = .int .i64 q ∧ xs.length = q ∧ Iown wr B t xs ∧ Below B w wr ∧ B ≤ wr.heap.size) (fun _ i _ => 90 - (intOf i).toNat)
  case atStart => exact ⟨0, [], by omega, rfl, rfl, World.ownsRow_nil _ _ _ _, Below.refl _ _, by have := HB.out; omega⟩
  case round =>
    obtain ⟨q, xs, hq, rfl, hl, ho, hb, hs⟩ := hrel
    by_cases hlt : q < 90
    · have o2 : (q : Int) < 90 := by omega
      have HO := Lib.hid ho
      have HL := Lib.hid hl
      have B5 := Lib.hid hb
      have s5 := Lib.hid hs
      clear ho hl hb hs
      go_wp2_with (at_builtin; refine wpList_append_near _ rfl _ _ 25 rfl B 3 j0 (.int .i64 0) 1 8 Try.underlying25 hj hy0 hy1 hy2 rfl (by decide) _ xs.length (xs.map (Value.int .i64)) rfl (HO.out.alloc _) ⟨wr.heap.size, 0, none⟩ 1 1 [.int .i64 _] rfl rfl (new_one rfl) (ones_one _) ?c3 ?c4 ?c5 ?_)
      case c3 => have := HL.out; unfold maxLen; omega
      case c4 => have := HL.out; omega
      case c5 => have := s5.out; simp; omega
      intro t' w6 hown' hg' hnear
      have R : Hid (∃ ys : List Int, ys.length = q + 1 ∧ Iown w6 B t' ys) := Lib.hid ⟨xs ++ [_], by simp [HL.out], by unfold Iown; simpa using hown'⟩
      have B6 : Hid (Below B w w6 ∧ B ≤ w6.heap.size) := Lib.hid ⟨(B5.out.alloc s5.out _).grown hg' (by have := s5.out; simp; omega) (fun k hk => (HO.out.base k hk).1), by have := hg'.size; have := s5.out; simp at *; omega⟩
      clear hown' hg' hnear HO B5 s5
      go_wp2
      go_roundw
      case rel => obtain ⟨ys, y1, y2⟩ := R.out; exact ⟨q + 1, ys, by omega, by go_num, y1, y2, B6.out.1, B6.out.2⟩
      case measure => simp [intOf]; omega
    · have oq : ¬ (q : Int) < 90 := by omega
      have NU := ho.nums (by omega)
      obtain ⟨at_, nt, ct, ev⟩ := NU.shape
      subst ev
      have RR : Tapess w (.returned (.pointer (some ⟨wr.heap.size, 0, none⟩))) (wr.alloc (.cells #[.slice at_ nt ct, .int .i64 0] 39)) := by
        refine ⟨wr.heap.size, _, rfl, tp_start NU (has_new rfl) ((Below.refl _ _).alloc (Nat.le_refl _) _) (Nat.le_refl _), by have := HB.out; omega, ?_⟩
        rw [HB.out]
        exact hb.alloc hs _
      have RRH := Lib.hid RR
      clear RR NU ho hl hb hs
      go_wp2
      go_ret
      exact RRH.out

end Go.Proofs.Ytnhnnkeakoakfaa

namespace Go.Proofs.Ytnhnnkeakoakfaa
open Go Go.RowKit
open M

def wsInts : List Int := [-1, 0, 1, 7, 8, 9, 16, 17, 255, 256, 257, 1099511627776]
def wsCells : Array Value := #[.int .i64 (-1), .int .i64 0, .int .i64 1, .int .i64 7, .int .i64 8, .int .i64 9, .int .i64 16, .int .i64 17, .int .i64 255, .int .i64 256, .int .i64 257, .int .i64 1099511627776]
def hsInts : List Int := [0, 1, 8, 23, 256, 300]
def hsCells : Array Value := #[.int .i64 0, .int .i64 1, .int .i64 8, .int .i64 23, .int .i64 256, .int .i64 300]
theorem row_cell14 {w : World} {g : Nat} {l : List Int} (h : Has w g (l.map (Value.int .i64)).toArray 3) (k : Nat) (hk : k < l.length) : w.cell? ⟨g, k, none⟩ = some (.int .i64 (l.getD k 0)) := by
  refine h.cell k _ ?_
  rw [List.getElem?_toArray, List.getElem?_map, List.getElem?_eq_getElem hk]
  simp [List.getD, List.getElem?_eq_getElem hk]
theorem ws_bd : ∀ k : Fin 12, -1 ≤ wsInts.getD k.val 0 ∧ wsInts.getD k.val 0 ≤ 1099511627776 := by decide

/-- The two polys of the last row: one of none, one of a place at the bounds. -/
def two14 (g : Nat) : List Po := [⟨false, .slice none 0 0, []⟩, ⟨false, .slice (some ⟨g, 0, none⟩) 1 1, [⟨9223372036854775807, -9223372036854775808⟩]⟩]
theorem pts14 {g : Nat} : ptsN (two14 g) (two14 g).length = [⟨9223372036854775807, -9223372036854775808⟩] := rfl
theorem pi14 {g : Nat} : PI (ptsN (two14 g) (two14 g).length) := by
  rw [pts14]
  intro p hp
  rw [List.mem_singleton.1 hp]
  simp [I64]
theorem lit14 {wr X : World} (h : (wr.alloc (.cells #[.int .i64 9223372036854775807, .int .i64 (-9223372036854775808)] 36)).alloc (.cells #[.bool false, .slice none 0 0, .bool false, .slice (some ⟨wr.heap.size, 0, none⟩) 1 1] 34) = X) : Ysl X (.slice (some ⟨wr.heap.size + 1, 0, none⟩) 2 2) (two14 wr.heap.size) := by
  obtain ⟨ha, hr, _⟩ := has_old h
  exact ysl_two (psl_nil _ _ _) (psl_lit (ps := [⟨9223372036854775807, -9223372036854775808⟩]) 1 1 rfl (by decide) ha rfl) hr

set_option maxRecDepth 100000 in
set_option maxHeartbeats 8000000 in
theorem boxNumbers_walk (w : World) : Calls Try.prog 3 #[] w fun e w' => e = .returned (.bool true) ∧ Below w.heap.size w w' := by
  go_enter Try.func3, Try.ntmps3
  go_wp2_with fail
  go_loopw [1] (fun t wr => ∃ n : Nat, n ≤ 625 ∧ t = .int .i64 n ∧ Below w.heap.size w wr) (fun t _ => 625 - (intOf t).toNat)
  case atStart => exact ⟨0, by omega, rfl, Below.refl _ _⟩
  case round =>
    obtain ⟨n, hn, rfl, hb⟩ := hrel
    have HB := Lib.hid hb
    clear hb
    by_cases hlt : n < 625
    · have o1 : (n : Int) < 625 := by omega
      have o2 : (0 : Int) ≤ n := by omega
      obtain ⟨c0, h0, l0, m0⟩ : ∃ c, (n : Int) % 5 - 1 = c ∧ -10 ≤ c ∧ c ≤ 1000 := ⟨_, rfl, by omega, by omega⟩
      obtain ⟨c1, h1, l1, m1⟩ : ∃ c, (n : Int) / 5 % 5 - 2 = c ∧ -10 ≤ c ∧ c ≤ 1000 := ⟨_, rfl, by omega, by omega⟩
      obtain ⟨c2, h2, l2, m2⟩ : ∃ c, (n : Int) / 25 % 5 = c ∧ -10 ≤ c ∧ c ≤ 1000 := ⟨_, rfl, by omega, by omega⟩
      obtain ⟨c3, h3, l3, m3⟩ : ∃ c, (n : Int) / 125 - 1 = c ∧ -10 ≤ c ∧ c ≤ 1000 := ⟨_, rfl, by omega, by omega⟩
      obtain ⟨V, hV⟩ : ∃ V, wr.alloc (.cells #[.int .i64 c0, .int .i64 c1, .int .i64 c2, .int .i64 c3] 23) = V := ⟨_, rfl⟩
      obtain ⟨G, hG⟩ : ∃ g, wr.heap.size = g := ⟨_, rfl⟩
      have ka : Has V G #[.int .i64 c0, .int .i64 c1, .int .i64 c2, .int .i64 c3] 23 := by rw [← hV]; exact has_new hG
      have bV : Below w.heap.size w V := by rw [← hV]; exact HB.out.alloc HB.out.size _
      have KA := Lib.hid ka
      have BV := Lib.hid bV
      have HV := Lib.hid hV
      clear ka bV hV HB
      go_upto_region 5 with fail
      rw [HV.out]
      clear hG h0 h1 h2 h3
      go_wp2_with fail
      go_loopw [3] (fun t wk => ∃ k : Nat, k ≤ 700 ∧ t = .int .i64 k ∧ Below V.heap.size V wk) (fun t _ => 1000 - (intOf t).toNat)
      case atStart => exact ⟨0, by omega, rfl, Below.refl _ _⟩
      case round =>
        obtain ⟨k, hk, rfl, hb⟩ := hrel
        have HB := Lib.hid hb
        have kx := KA.out.below hb KA.out.lt
        clear hb
        by_cases hlk : k < 625
        · have o3 : (k : Int) < 625 := by omega
          have o4 : (0 : Int) ≤ k := by omega
          obtain ⟨d0, g0, _, _⟩ : ∃ c, (k : Int) % 5 = c ∧ -10 ≤ c ∧ c ≤ 1000 := ⟨_, rfl, by omega, by omega⟩
          obtain ⟨d1, g1, _, _⟩ : ∃ c, (k : Int) / 5 % 5 = c ∧ -10 ≤ c ∧ c ≤ 1000 := ⟨_, rfl, by omega, by omega⟩
          obtain ⟨d2, g2, _, _⟩ : ∃ c, (k : Int) / 25 % 5 + 1 = c ∧ -10 ≤ c ∧ c ≤ 1000 := ⟨_, rfl, by omega, by omega⟩
          obtain ⟨d3, g3, _, _⟩ : ∃ c, (k : Int) / 125 * 3 = c ∧ -10 ≤ c ∧ c ≤ 1000 := ⟨_, rfl, by omega, by omega⟩
          obtain ⟨e0, f0, _, _⟩ : ∃ c, (k : Int) % 7 - 2 = c ∧ -10 ≤ c ∧ c ≤ 1000 := ⟨_, rfl, by omega, by omega⟩
          obtain ⟨e1, f1, _, _⟩ : ∃ c, (n : Int) % 7 - 2 = c ∧ -10 ≤ c ∧ c ≤ 1000 := ⟨_, rfl, by omega, by omega⟩
          obtain ⟨X, hX⟩ : ∃ V, wr.alloc (.cells #[.int .i64 d0, .int .i64 d1, .int .i64 d2, .int .i64 d3] 23) = V := ⟨_, rfl⟩
          obtain ⟨H, hH⟩ : ∃ g, wr.heap.size = g := ⟨_, rfl⟩
          have kb : Has X H #[.int .i64 d0, .int .i64 d1, .int .i64 d2, .int .i64 d3] 23 := by rw [← hX]; exact has_new hH
          have bX : Below wr.heap.size wr X := by rw [← hX]; exact (Below.refl _ _).alloc (Nat.le_refl _) _
          have KB := Lib.hid kb
          have KX := Lib.hid (kx.below bX kx.lt)
          have BX := Lib.hid (HB.out.trans (bX.mono HB.out.size))
          have HX := Lib.hid hX
          clear kb bX hX kx
          go_upto_region 9 with fail
          rw [HX.out]
          clear hH g0 g1 g2 g3
          have a0 := KX.out.cell 0 _ rfl
          have a1 := KX.out.cell 1 _ rfl
          have a2 := KX.out.cell 2 _ rfl
          have a3 := KX.out.cell 3 _ rfl
          have b0 := KB.out.cell 0 _ rfl
          have b1 := KB.out.cell 1 _ rfl
          have b2 := KB.out.cell 2 _ rfl
          have b3 := KB.out.cell 3 _ rfl
          go_wp2_with fail
          refine (l14_boxes ⟨_, _, _, _⟩ ⟨_, _, _, _⟩ _ _ _).mono ?_
          rintro r w2 ⟨rfl, hq⟩
          have B2 := Lib.hid (BX.out.trans (hq.mono BX.out.size))
          clear hq a0 a1 a2 a3 b0 b1 b2 b3
          go_wp2
          go_roundw
          case rel => exact ⟨k + 37, by omega, by go_num, B2.out⟩
          case measure => simp [intOf]; omega
        · have o3 : ¬ (k : Int) < 625 := by omega
          have B2 := Lib.hid (BV.out.trans (HB.out.mono BV.out.size))
          clear kx
          go_wp2
          go_roundw
          case rel => exact ⟨n + 1, by omega, by go_num, B2.out⟩
          case measure => simp [intOf]; omega
    · have o1 : ¬ (n : Int) < 625 := by omega
      obtain ⟨V, hV⟩ : ∃ V, wr.alloc (.cells wsCells 3) = V := ⟨_, rfl⟩
      obtain ⟨G, hG⟩ : ∃ g, wr.heap.size = g := ⟨_, rfl⟩
      have ka : Has V G wsCells 3 := by rw [← hV]; exact has_new hG
      have bV : Below w.heap.size w V := by rw [← hV]; exact HB.out.alloc HB.out.size _
      rw [show wsCells = #[.int .i64 (-1), .int .i64 0, .int .i64 1, .int .i64 7, .int .i64 8, .int .i64 9, .int .i64 16, .int .i64 17, .int .i64 255, .int .i64 256, .int .i64 257, .int .i64 1099511627776] from rfl] at hV
      have KA := Lib.hid ka
      have BV := Lib.hid bV
      have HV := Lib.hid hV
      clear ka bV hV HB
      go_wp2_with fail
      rw [HV.out]
      clear hG
      go_loopw [58] (fun t wr => ∃ n : Nat, n ≤ 12 ∧ t = .int .i64 n ∧ Below V.heap.size V wr) (fun t _ => 12 - (intOf t).toNat)
      case atStart => exact ⟨0, by omega, rfl, Below.refl _ _⟩
      case round =>
        obtain ⟨n, hn, rfl, hb⟩ := hrel
        have HB := Lib.hid hb
        have kx := KA.out.below hb KA.out.lt
        clear hb
        by_cases hlt : n < 12
        · have o2 : (n : Int) < 12 := by omega
          have o3 : (0 : Int) ≤ n := by omega
          have c0 := row_cell14 (l := wsInts) kx n hlt
          obtain ⟨A0, A1⟩ := ws_bd ⟨n, hlt⟩
          obtain ⟨A, hA⟩ : ∃ A, wsInts.getD n 0 = A := ⟨_, rfl⟩
          simp only [hA] at c0 A0 A1
          clear hA
          obtain ⟨X, hX⟩ : ∃ V, wr.alloc (.cells hsCells 3) = V := ⟨_, rfl⟩
          obtain ⟨H, hH⟩ : ∃ g, wr.heap.size = g := ⟨_, rfl⟩
          have kb : Has X H hsCells 3 := by rw [← hX]; exact has_new hH
          have bX : Below wr.heap.size wr X := by rw [← hX]; exact (Below.refl _ _).alloc (Nat.le_refl _) _
          rw [show hsCells = #[.int .i64 0, .int .i64 1, .int .i64 8, .int .i64 23, .int .i64 256, .int .i64 300] from rfl] at hX
          have KB := Lib.hid kb
          have BX := Lib.hid (HB.out.trans (bX.mono HB.out.size))
          have HX := Lib.hid hX
          clear kb bX hX kx
          go_wp2_with fail
          rw [HX.out]
          clear hH c0
          go_loopw [64] (fun t wk => ∃ k : Nat, k ≤ 6 ∧ t = .int .i64 k ∧ Below X.heap.size X wk) (fun t _ => 6 - (intOf t).toNat)
          case atStart => exact ⟨0, by omega, rfl, Below.refl _ _⟩
          case round =>
            obtain ⟨k, hk, rfl, hb⟩ := hrel
            have HB2 := Lib.hid hb
            have ky := KB.out.below hb KB.out.lt
            clear hb
            by_cases hlk : k < 6
            · have o4 : (k : Int) < 6 := by omega
              have o5 : (0 : Int) ≤ k := by omega
              have d0 := row_cell14 (l := hsInts) ky k hlk
              obtain ⟨D, hD⟩ : ∃ A, hsInts.getD k 0 = A := ⟨_, rfl⟩
              rw [hD] at d0
              clear hD ky
              go_wp2_with fail
              refine (l14_tiles ⟨_, _, _, _⟩ _ _ _).mono ?_
              rintro r w2 ⟨rfl, hq⟩
              have B2 := Lib.hid (HB2.out.trans (hq.mono HB2.out.size))
              clear hq d0
              go_wp2_with fail
              refine (l14_tiles ⟨_, _, _, _⟩ _ _ _).mono ?_
              rintro r w3 ⟨rfl, hq⟩
              have B3 := Lib.hid (B2.out.trans (hq.mono B2.out.size))
              clear hq
              go_wp2_with fail
              refine (l14_tiles ⟨_, _, _, _⟩ _ _ _).mono ?_
              rintro r w4 ⟨rfl, hq⟩
              have B4 := Lib.hid (B3.out.trans (hq.mono B3.out.size))
              clear hq
              go_wp2
              go_roundw
              case rel => exact ⟨k + 1, by omega, by go_num, B4.out⟩
              case measure => simp [intOf]; omega
            · obtain rfl : k = 6 := by omega
              have B2 := Lib.hid (BX.out.trans (HB2.out.mono BX.out.size))
              clear ky
              go_wp2
              go_roundw
              case rel => exact ⟨n + 1, by omega, by go_num, B2.out⟩
              case measure => simp [intOf]; omega
        · have o2 : ¬ (n : Int) < 12 := by omega
          have B2 := Lib.hid (BV.out.trans (HB.out.mono BV.out.size))
          clear kx
          go_wp2_with fail
          go_loopw [9] (fun t wk => ∃ k : Nat, k ≤ 30 ∧ t = .int .i64 k ∧ Below w.heap.size w wk) (fun t _ => 30 - (intOf t).toNat)
          case atStart => exact ⟨0, by omega, rfl, B2.out⟩
          case round =>
            obtain ⟨k, hk, rfl, hb⟩ := hrel
            have HB3 := Lib.hid hb
            clear hb B2
            by_cases hlk : k < 30
            · have o3 : (k : Int) < 30 := by omega
              go_wp2_with fail
              refine (l14_tapes k (by omega) _).mono ?_
              rintro e w2 ⟨g, v, rfl, tp, hg, hb⟩
              have B4 := Lib.hid (HB3.out.trans (hb.mono HB3.out.size))
              have PL := Lib.hid (l14_polys g v w2 tp)
              have GL : Hid (w.heap.size ≤ g) := Lib.hid (by have := HB3.out.size; omega)
              clear tp hg hb
              go_wp2_with fail
              refine PL.out.mono ?_
              intro e w3 hpl
              obtain ⟨vl, zs, rfl, hys, h285, hpi, hb1⟩ := polys_of hpl B4.out GL.out
              have YS := Lib.hid hys
              have B5 := Lib.hid hb1
              obtain ⟨az, nz, cz, ez⟩ : ∃ ao n cap, vl = .slice ao n cap := by obtain ⟨ao, cap, e, _⟩ := hys; exact ⟨_, _, _, e⟩
              subst ez
              have EO := Lib.hid (b_of hys (pi_ptsN hpi _ (Nat.le_refl _)))
              have FO := Lib.hid (fun w' (hb : Below w3.heap.size w3 w') => r14_of (YS.out.below hb) (pi_ptsN hpi _ (Nat.le_refl _)))
              obtain ⟨Q, hQ⟩ : ∃ Q, boxP (ptsN zs zs.length) = Q := ⟨_, rfl⟩
              rw [hQ] at EO FO
              obtain ⟨q0, q1, q2, q3⟩ := Q
              clear hpl hys h285 hpi hb1 hQ
              go_wp2_with fail
              refine EO.out.mono ?_
              rintro r w4 ⟨rfl, hq⟩
              have B6 := Lib.hid hq
              clear hq
              go_wp2_with fail
              refine (FO.out _ B6.out).mono ?_
              rintro r w5 ⟨rfl, hq⟩
              have B7 := Lib.hid ((B5.out.trans (B6.out.mono B5.out.size)).trans (hq.mono (B5.out.trans (B6.out.mono B5.out.size)).size))
              clear hq
              go_wp2
              go_roundw
              case rel => exact ⟨k + 1, by omega, by go_num, B7.out⟩
              case measure => simp [intOf]; omega
            · have o3 : ¬ (k : Int) < 30 := by omega
              obtain ⟨X, hX⟩ : ∃ X, (wr.alloc (.cells #[.int .i64 9223372036854775807, .int .i64 (-9223372036854775808)] 36)).alloc (.cells #[.bool false, .slice none 0 0, .bool false, .slice (some ⟨wr.heap.size, 0, none⟩) 1 1] 34) = X := ⟨_, rfl⟩
              have LX := Lib.hid (lit14 hX)
              have BX := Lib.hid (HB3.out.trans ((has_old hX).2.2.mono HB3.out.size))
              have HX := Lib.hid hX
              clear hX
              go_wp2_with fail
              rw [HX.out]
              refine (b_of LX.out pi14).mono ?_
              rintro r w4 ⟨rfl, hq⟩
              have B4 := Lib.hid (BX.out.trans (hq.mono BX.out.size))
              clear hq
              obtain ⟨Z, hZ⟩ : ∃ X, (w4.alloc (.cells #[.int .i64 9223372036854775807, .int .i64 (-9223372036854775808)] 36)).alloc (.cells #[.bool false, .slice none 0 0, .bool false, .slice (some ⟨w4.heap.size, 0, none⟩) 1 1] 34) = X := ⟨_, rfl⟩
              have LZ := Lib.hid (lit14 hZ)
              have BZ := Lib.hid (B4.out.trans ((has_old hZ).2.2.mono B4.out.size))
              have HZ := Lib.hid hZ
              clear hZ
              obtain ⟨Q, hQ⟩ : ∃ Q, boxP [(⟨9223372036854775807, -9223372036854775808⟩ : Pt)] = Q := ⟨_, rfl⟩
              rw [pts14, hQ]
              have HQ := Lib.hid hQ
              clear hQ
              obtain ⟨q0, q1, q2, q3⟩ := Q
              go_wp2_with fail
              rw [HZ.out]
              refine (r14_of LZ.out pi14).mono ?_
              rw [pts14, HQ.out]
              rintro r w5 ⟨rfl, hq⟩
              have B5 := Lib.hid (BZ.out.trans (hq.mono BZ.out.size))
              clear hq
              go_wp2_with fail
              refine (known14 _).mono ?_
              rintro e w6 ⟨rfl, hq⟩
              have B6 := Lib.hid (B5.out.trans (hq.mono B5.out.size))
              clear hq
              go_wp2
              go_ret
              exact ⟨rfl, B6.out⟩

end Go.Proofs.Ytnhnnkeakoakfaa

namespace Go.Proofs.Ytnhnnkeakoakfaa.boxNumbers
open Go.ChangeShapes Go.WideShapes Go.ChangeAt Go.RowKit

theorem post_below {H : Type} {enc : TypeId × Value → H} {P : Program} {f : Func} {s : ChangeSpec} {apart fresh handsOn : Bool} {W V : World} {args : Array Value} {v : Value} {ds gs : List (DataW H)} {before pa pv : List MemPlace}
    (hW : DataW.Whole enc P f.params.toList s.vars apart W args.toList ds gs before)
    (hres : ∀ (b : Nat) (sp : Nat → Bool) (hd : Bool), DataW.TrodAll enc P V b sp hd f.resultTypes.toList (v.resultList f.resultTypes.size) (s.fn H (ds ++ gs)).results [])
    (hargs : ∀ sp : Nat → Bool, (∀ p ∈ before, sp p.block = true) → DataW.TrodAll enc P V 0 sp true f.params.toList args.toList (s.fn H (ds ++ gs)).args pa)
    (hvars : ∀ sp : Nat → Bool, (∀ p ∈ before, sp p.block = true) → DataW.TrodVars enc P V sp s.vars (s.fn H (ds ++ gs)).vars pv)
    (hps : before = pa ++ pv) (hb : Below W.heap.size W V) : s.post enc P f apart fresh handsOn false W args v V := by
  have hl : ∀ p ∈ before, (fun b => decide (b < W.heap.size)) p.block = true := fun p hp => by simpa using hW.lt p hp
  refine ⟨ds, gs, before, [], pa, pv, hW, hres _ _ _, hargs _ hl, hvars _ hl, World.keptBut_mono (fun p hp => ⟨hp, ?_⟩) (hb.frame (· ∈ before)), fun h => by cases h⟩
  rw [hps, List.mem_append] at hp
  exact Or.inr hp

theorem own : ownKnob Try.prog.godebug = none := by kernel_rfl

set_option maxRecDepth 100000 in
theorem lifted (os : Os) (started : os.Started) (H : Type) (enc : TypeId × Value → H) :
    ReturnsInHanded {} Try.checked os 3 .any (Rows.boxNumbersSpec.pre6 enc Try.prog Try.f3 Rows.boxNumbersRow.domain false) (Rows.boxNumbersSpec.post enc Try.prog Try.f3 false true false false) := by
  refine returnsInHanded_of_change (C := Try.checked) own started (by kernel_rfl) Try.func3
    (ChangeSpec.witness6 (enc := enc) (C := Try.checked) false ⟨#[], #[], []⟩ 8 (by kernel_rfl) (by kernel_rfl) (by kernel_rfl) (by kernel_rfl)) ?_
  intro W base args ds gs before hval0 hW hcnd _
  have hval : ∀ (j : Nat) t v, Try.f3.params[j]? = some t → args[j]? = some v → Value.okWide Try.prog W .any base t v := hval0
  have hW' := hW
  obtain ⟨p, q, hA0, hV, rfl, hfz, hnd⟩ := hW
  have hA : DataW.TrodAll enc Try.prog W 0 (fun _ => true) true Try.f3.params.toList args.toList ds p := hA0
  rw [Try.params3] at hA hval
  obtain ⟨rfl, rfl, rfl⟩ := trodAll_none hA
  obtain ⟨rfl, rfl⟩ := trodVars_none hV
  clear hA0 hval0
  simp only [List.append_nil] at hW'
  refine (boxNumbers_walk W).mono fun e W' ⟨he, hg⟩ => ?_
  subst he
  exact ⟨_, rfl, post_below (pa := []) (pv := []) hW' (fun _ _ _ => (trodAll_cons_mk (shut_bool Try.underlying4 _) trodAll_mk0)) (fun sp _ => rfl) (fun _ _ => rfl) rfl hg⟩

theorem over : Rows.boxNumbersRow.holds Try.pinned (OpenSpec.ofChange Rows.boxNumbersSpec) :=
  OpenClaim.holds_of_wide 3 Try.f3 rfl rfl rfl rfl rfl rfl rfl ⟨rfl, rfl, rfl, rfl, rfl⟩ rfl rfl rfl rfl rfl (by kernel_rfl) Try.func3 (by kernel_rfl)
    (of_decide_eq_true (by kernel_rfl)) (by unfold Func.isWrapper; first | (rw [if_pos (by decide +kernel)]; kernel_rfl) | (rw [if_neg (by decide +kernel)]; exact ⟨rfl, rfl⟩))
    (fun os started H enc _ => lifted os started H enc)

end Go.Proofs.Ytnhnnkeakoakfaa.boxNumbers
namespace Go.Proofs.Ytnhnnkeakoakfaa
theorem boxNumbers_holds : Rows.BoxNumbersSaid := boxNumbers.over
#print axioms boxNumbers_holds
end Go.Proofs.Ytnhnnkeakoakfaa
