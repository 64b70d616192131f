/- ArcNumbers of the statements: whatever the numbers are, the call returns true and each argument reads as it did; no condition. -/
import Derived.Test.YtddcjdhlmlhgdaaN4
import Derived.Test.YtddcjdhlmlhgdaaTB7
import Derived.Test.YtddcjdhlmlhgdaaIO
import Derived.Test.YtddcjdhlmlhgdaaS9
import Derived.Test.YtddcjdhlmlhgdaaPT9
import Derived.Test.YtddcjdhlmlhgdaaRows
import Derived.WalkKit
import Derived.ProofKit
import Derived.OpenShut
namespace Go.Proofs.Ytddcjdhlmlhgdaa
open Go Go.RowKit
open M

def kn9 : List Pt := [⟨0, 0⟩, ⟨16, 0⟩]
theorem kn9_c : cutL false kn9 2 5 = [⟨2, 0⟩, ⟨5, 0⟩] := by decide +kernel
theorem kn9_n : cutL false kn9 5 5 = [] := by decide +kernel
theorem kn9_l : lengthL false kn9 = 16 := by decide +kernel
theorem kn9_o : onP ⟨0, 0⟩ ⟨8, 0⟩ 9 4 = ⟨8, 0⟩ := by decide +kernel
theorem kn9_s : sidesN false 2 = 1 := by decide

set_option maxRecDepth 100000 in
set_option maxHeartbeats 2000000 in
theorem known9 (w : World) : Calls Try.prog 11 #[] w fun r w' => r = .returned (.bool true) ∧ Below w.heap.size w w' := by
  obtain ⟨B, hB⟩ : ∃ B, w.heap.size = B := ⟨_, rfl⟩
  obtain ⟨W, hW⟩ : ∃ W, (w.alloc (.cells #[.int .i64 0, .int .i64 0, .int .i64 16, .int .i64 0] 32)).alloc (.cells #[.bool false, .slice (some ⟨B, 0, none⟩) 2 2] 24) = W := ⟨_, rfl⟩
  have k0 : Has W B #[.int .i64 0, .int .i64 0, .int .i64 16, .int .i64 0] 32 := by rw [← hW]; exact (has_new hB).alloc _
  have k1 : Has W (B + 1) #[.bool false, .slice (some ⟨B, 0, none⟩) 2 2] 24 := by rw [← hW]; exact has_new (by simp [hB])
  have hs : Psl W (.slice (some ⟨B, 0, none⟩) 2 2) kn9 := psl_lit (ps := kn9) 2 2 rfl (by decide) k0 rfl
  have bW : Below B w W := by rw [← hW]; exact ((Below.refl _ _).alloc (by omega) _).alloc (by simp; omega) _
  have HS := Lib.hid (fun (w' : World) (hb : Below W.heap.size W w') => hs.below hb (Nat.le_refl _))
  have K1 := Lib.hid k1
  have BW := Lib.hid bW
  have HW := Lib.hid hW
  have HB := Lib.hid hB
  have P1 : Hid (∀ w', Below W.heap.size W w' → Calls Try.prog 15 #[.agg #[.bool false, .slice (some ⟨B, 0, none⟩) 2 2], .int .i64 2, .int .i64 5] w' (Gives w' false [⟨2, 0⟩, ⟨5, 0⟩])) := Lib.hid (fun w' hb => by have := a_part false 2 5 (HS.out w' hb) (by decide); rw [kn9_c] at this; exact this)
  have P2 : Hid (∀ w', Below W.heap.size W w' → Calls Try.prog 15 #[.agg #[.bool false, .slice (some ⟨B, 0, none⟩) 2 2], .int .i64 5, .int .i64 5] w' (Gives w' false [])) := Lib.hid (fun w' hb => by have := a_part false 5 5 (HS.out w' hb) (by decide); rw [kn9_n] at this; exact this)
  have LE : Hid (∀ w', Below W.heap.size W w' → Calls Try.prog 14 #[.agg #[.bool false, .slice (some ⟨B, 0, none⟩) 2 2]] w' fun r w'' => r = .returned (.int .i64 16) ∧ Below w'.heap.size w' w'') := Lib.hid (fun w' hb => by have := a_length false (HS.out w' hb); rw [kn9_l] at this; exact this)
  have SI : Hid (∀ w', Calls Try.prog 16 #[.agg #[.bool false, .slice (some ⟨B, 0, none⟩) 2 2]] w' fun r w'' => r = .returned (.int .i64 1) ∧ Below w'.heap.size w' w'') := Lib.hid (fun w' => by have := a_sides false (some ⟨B, 0, none⟩) 2 2 (by decide) w'; rw [kn9_s] at this; exact this)
  have ON : Hid (∀ w', Calls Try.prog 12 #[.agg #[.int .i64 0, .int .i64 0], .agg #[.int .i64 8, .int .i64 0], .int .i64 9, .int .i64 4] w' fun r w'' => r = .returned (.agg #[.int .i64 8, .int .i64 0]) ∧ Below w'.heap.size w' w'') := Lib.hid (fun w' => by have := a_on ⟨0, 0⟩ ⟨8, 0⟩ 9 4 w'; rw [kn9_o] at this; exact this)
  clear hs bW hW k0 k1
  go_enter Try.func11, Try.ntmps11
  go_upto_region 2 with fail
  rw [HW.out]
  clear hB
  have a0 := K1.out.cell 0 _ rfl
  have a1 := K1.out.cell 1 _ rfl
  go_wp2_with fail
  refine (P1.out _ (Below.refl _ _)).mono ?_
  rintro e w1 ⟨v1, rfl, ho1, hb1⟩
  obtain ⟨g1, cap1, rfl⟩ := ho1.shape (by decide)
  obtain ⟨V, hV⟩ : ∃ V, w1.alloc (.cells #[.bool false, .slice (some ⟨g1, 0, none⟩) 2 cap1] 24) = V := ⟨_, rfl⟩
  obtain ⟨gp, hgp⟩ : ∃ g, w1.heap.size = g := ⟨_, rfl⟩
  have kp : Has V gp #[.bool false, .slice (some ⟨g1, 0, none⟩) 2 cap1] 24 := by rw [← hV]; exact has_new hgp
  have oV : Pown V W.heap.size (.slice (some ⟨g1, 0, none⟩) 2 cap1) [⟨2, 0⟩, ⟨5, 0⟩] := by rw [← hV]; exact ho1.alloc _
  have bV : Below W.heap.size W V := by rw [← hV]; exact hb1.alloc hb1.size _
  have KP := Lib.hid kp
  have OV := Lib.hid oV
  have BV := Lib.hid bV
  have HV := Lib.hid hV
  have kk := K1.out.below bV K1.out.lt
  clear kp oV bV hV ho1 hb1 a0 a1
  go_upto_region 3 with fail
  rw [HV.out]
  clear hgp
  have a0 := kk.cell 0 _ rfl
  have a1 := kk.cell 1 _ rfl
  clear kk
  go_wp2_with fail
  refine (LE.out _ BV.out).mono ?_
  rintro e w2 ⟨rfl, hb2⟩
  have B2 := Lib.hid (BV.out.trans (hb2.mono BV.out.size))
  have D2 := Lib.hid hb2
  have kk := K1.out.below B2.out K1.out.lt
  have a0 := kk.cell 0 _ rfl
  have a1 := kk.cell 1 _ rfl
  clear kk hb2
  go_wp2_with fail
  refine (SI.out _).mono ?_
  rintro e w3 ⟨rfl, hb3⟩
  have B3 := Lib.hid (B2.out.trans (hb3.mono B2.out.size))
  have D3 := Lib.hid (D2.out.trans (hb3.mono D2.out.size))
  have kk := K1.out.below B3.out K1.out.lt
  have a0 := kk.cell 0 _ rfl
  have a1 := kk.cell 1 _ rfl
  have kq := KP.out.below D3.out KP.out.lt
  have p0 := kq.cell 0 _ rfl
  have p1 := kq.cell 1 _ rfl
  have r1 := (OV.out.below D3.out (Nat.le_refl _)).row (by decide) (by decide)
  have x0 := r1.c0 0 (by decide)
  have x1 := r1.c0 1 (by decide)
  simp only [Nat.zero_add, Nat.reduceMul, Nat.zero_mul, pt_cons, pt_zero] at x0 x1
  clear kk kq r1 hb3
  go_wp2_with fail
  refine (P2.out _ B3.out).mono ?_
  rintro e w4 ⟨v4, rfl, ho4, hb4⟩
  obtain ⟨ao4, cap4, ex⟩ := ho4.len
  simp only [List.length_nil] at ex
  subst ex
  have fd : ∀ w : World, (Instr.field 24 (.agg #[.bool false, .slice ao4 0 cap4]) 1).run Try.prog w = .ok (.slice ao4 0 cap4) w := fun _ => by kernel_rfl
  have B4 := Lib.hid (B3.out.trans (hb4.mono B3.out.size))
  clear ho4 hb4
  go_wp2_with fail
  refine (ON.out _).mono ?_
  rintro e w5 ⟨rfl, hb5⟩
  have B5 := Lib.hid (B4.out.trans (hb5.mono B4.out.size))
  clear hb5
  go_wp2
  go_ret
  exact ⟨rfl, by rw [HB.out]; exact BW.out.trans (B5.out.mono (by have := BW.out.size; have := HB.out; omega))⟩

end Go.Proofs.Ytddcjdhlmlhgdaa

namespace Go.Proofs.Ytddcjdhlmlhgdaa
open Go Go.RowKit
open M

def Tapess (w : World) (e : Ending) (w' : World) : Prop := ∃ (g : Nat) (v : Value), e = .returned (.pointer (some ⟨g, 0, none⟩)) ∧ Tp w' g v ∧ w.heap.size ≤ g ∧ Below w.heap.size w w'

set_option maxRecDepth 100000 in
set_option maxHeartbeats 2000000 in
theorem l9_tapes (k : Nat) (hk : k ≤ 40) (w : World) : Calls Try.prog 8 #[.int .i64 (k : Int)] w (Tapess w) := by
  obtain ⟨j0, hj, hy0, hy1, hy2⟩ := info_parts Try.infoInt
  obtain ⟨B, hB⟩ : ∃ B, w.heap.size = B := ⟨_, rfl⟩
  have HB := Lib.hid hB
  clear hB
  have ok : (k : Int) ≤ 40 := by omega
  go_enter Try.func8, Try.ntmps8
  go_wp2_with fail
  go_loopw [3, 4] (fun t i wr => ∃ (q : Nat) (xs : List Int), q ≤ 60 ∧ i = .int .i64 q ∧ xs.length = q ∧ Iown wr B t xs ∧ Below B w wr ∧ B ≤ wr.heap.size) (fun _ i _ => 60 - (intOf i).toNat)
  case atStart => exact ⟨0, [], by omega, rfl, rfl, World.ownsRow_nil _ _ _ _, Below.refl _ _, by have := HB.out; omega⟩
  case round =>
    obtain ⟨q, xs, hq, rfl, hl, ho, hb, hs⟩ := hrel
    by_cases hlt : q < 60
    · have o2 : (q : Int) < 60 := by omega
      have HO := Lib.hid ho
      have HL := Lib.hid hl
      have B5 := Lib.hid hb
      have s5 := Lib.hid hs
      clear ho hl hb hs
      go_wp2_with (at_builtin; refine wpList_append_near _ rfl _ _ 34 rfl B 3 j0 (.int .i64 0) 1 8 Try.underlying34 hj hy0 hy1 hy2 rfl (by decide) _ xs.length (xs.map (Value.int .i64)) rfl (HO.out.alloc _) ⟨wr.heap.size, 0, none⟩ 1 1 [.int .i64 _] rfl rfl (new_one rfl) (ones_one _) ?c3 ?c4 ?c5 ?_)
      case c3 => have := HL.out; unfold maxLen; omega
      case c4 => have := HL.out; omega
      case c5 => have := s5.out; simp; omega
      intro t' w6 hown' hg' hnear
      have R : Hid (∃ ys : List Int, ys.length = q + 1 ∧ Iown w6 B t' ys) := Lib.hid ⟨xs ++ [_], by simp [HL.out], by unfold Iown; simpa using hown'⟩
      have B6 : Hid (Below B w w6 ∧ B ≤ w6.heap.size) := Lib.hid ⟨(B5.out.alloc s5.out _).grown hg' (by have := s5.out; simp; omega) (fun k hk => (HO.out.base k hk).1), by have := hg'.size; have := s5.out; simp at *; omega⟩
      clear hown' hg' hnear HO B5 s5
      go_wp2
      go_roundw
      case rel => obtain ⟨ys, y1, y2⟩ := R.out; exact ⟨q + 1, ys, by omega, by go_num, y1, y2, B6.out.1, B6.out.2⟩
      case measure => simp [intOf]; omega
    · have oq : ¬ (q : Int) < 60 := by omega
      have NU := ho.nums (by omega)
      obtain ⟨at_, nt, ct, ev⟩ := NU.shape
      subst ev
      have RR : Tapess w (.returned (.pointer (some ⟨wr.heap.size, 0, none⟩))) (wr.alloc (.cells #[.slice at_ nt ct, .int .i64 0] 36)) := by
        refine ⟨wr.heap.size, _, rfl, tp_start NU (has_new rfl) ((Below.refl _ _).alloc (Nat.le_refl _) _) (Nat.le_refl _), by have := HB.out; omega, ?_⟩
        rw [HB.out]
        exact hb.alloc hs _
      have RRH := Lib.hid RR
      clear RR NU ho hl hb hs
      go_wp2
      go_ret
      exact RRH.out

end Go.Proofs.Ytddcjdhlmlhgdaa

namespace Go.Proofs.Ytddcjdhlmlhgdaa
open Go Go.RowKit
open M

/-- The first n cells are numbers. -/
def AllI (cs : Array Value) (n : Nat) : Prop := ∀ j, j < n → ∃ x : Int, cs[j]? = some (.int .i64 x)
theorem allI10 {a b c d e f g h i k : Int} : AllI #[.int .i64 a, .int .i64 b, .int .i64 c, .int .i64 d, .int .i64 e, .int .i64 f, .int .i64 g, .int .i64 h, .int .i64 i, .int .i64 k] 10 := by
  intro j hj
  rcases (show j = 0 ∨ j = 1 ∨ j = 2 ∨ j = 3 ∨ j = 4 ∨ j = 5 ∨ j = 6 ∨ j = 7 ∨ j = 8 ∨ j = 9 by omega) with rfl | rfl | rfl | rfl | rfl | rfl | rfl | rfl | rfl | rfl <;> exact ⟨_, rfl⟩
theorem allI9 {a b c d e f g h i : Int} : AllI #[.int .i64 a, .int .i64 b, .int .i64 c, .int .i64 d, .int .i64 e, .int .i64 f, .int .i64 g, .int .i64 h, .int .i64 i] 9 := by
  intro j hj
  rcases (show j = 0 ∨ j = 1 ∨ j = 2 ∨ j = 3 ∨ j = 4 ∨ j = 5 ∨ j = 6 ∨ j = 7 ∨ j = 8 by omega) with rfl | rfl | rfl | rfl | rfl | rfl | rfl | rfl | rfl <;> exact ⟨_, rfl⟩
/-- What stays in the loops over the numbers: the poly in block gp, its places, the list of numbers in block g. -/
structure Nm (B : Nat) (w : World) (gp : Nat) (c : Bool) (l : Value) (ps : List Pt) (wr : World) : Prop where
  below : Below B w wr
  size : B ≤ wr.heap.size
  out : Has wr gp #[.bool c, l] 24
  sl : Psl wr l ps
section
variable {B : Nat} {w wr w' : World} {gp : Nat} {c : Bool} {l : Value} {ps : List Pt}
theorem Nm.later (h : Nm B w gp c l ps wr) (hq : Below wr.heap.size wr w') : Nm B w gp c l ps w' := ⟨h.below.trans (hq.mono h.size), by have := hq.size; have := h.size; omega, h.out.below hq h.out.lt, h.sl.below hq (Nat.le_refl _)⟩
theorem Nm.alloc (h : Nm B w gp c l ps wr) (o : Obj) : Nm B w gp c l ps (wr.alloc o) := h.later ((Below.refl _ _).alloc (Nat.le_refl _) _)
end

set_option maxRecDepth 100000 in
set_option maxHeartbeats 4000000 in
theorem arcNumbers_walk (w : World) :
    Calls Try.prog 3 #[] w fun r w' => r = .returned (.bool true) ∧ Below w.heap.size w w' := by
  obtain ⟨B, hB⟩ : ∃ B, w.heap.size = B := ⟨_, rfl⟩
  have HB := Lib.hid hB
  clear hB
  go_enter Try.func3, Try.ntmps3
  go_wp2_with fail
  go_loopw [1] (fun i wr => ∃ k : Nat, k ≤ 40 ∧ i = .int .i64 k ∧ Below B w wr ∧ B ≤ wr.heap.size) (fun i _ => 40 - (intOf i).toNat)
  case atStart => exact ⟨0, by omega, rfl, Below.refl _ _, by have := HB.out; omega⟩
  case round =>
    obtain ⟨k, hk, rfl, hb, hs⟩ := hrel
    rename World => v4
    have B4 := Lib.hid hb
    have s4 := Lib.hid hs
    clear hb hs
    by_cases hk40 : k < 40
    · have o1 : (k : Int) < 40 := by omega
      go_wp2_with fail
      refine (l9_tapes k hk v4).mono ?_
      rintro e w1 ⟨g, v, rfl, tp1, lg1, hb1⟩
      have P1 := Lib.hid (l9_poly g v w1 tp1)
      have B1 : Hid (Below B w w1 ∧ B ≤ g ∧ B ≤ w1.heap.size) := Lib.hid ⟨B4.out.trans (hb1.mono s4.out), by have := s4.out; omega, by have := hb1.size; have := s4.out; omega⟩
      clear tp1 lg1 hb1 B4 s4
      go_wp2_with fail
      refine P1.out.mono ?_
      rintro e w2 ⟨c, l, ps, rfl, h12, sm, ho, tp2, hg2⟩
      have sl2 := ho.sl (by omega)
      obtain ⟨ao, cap, hv⟩ := ho.len
      obtain ⟨N, hN⟩ : ∃ N, ps.length = N := ⟨_, rfl⟩
      rw [hN] at hv
      subst hv
      obtain ⟨gp, hgp⟩ : ∃ g, w2.heap.size = g := ⟨_, rfl⟩
      obtain ⟨W, hW⟩ : ∃ W, w2.alloc (.cells #[.bool c, .slice ao N cap] 24) = W := ⟨_, rfl⟩
      have b2 : Below B w w2 := below_on B1.out.1 hg2 B1.out.2.1 B1.out.2.2
      have NW : Nm B w gp c (.slice ao N cap) ps W := by
        have q := hg2.size
        have q2 := B1.out.2.2
        rw [← hW]
        exact ⟨b2.alloc (by omega) _, by simp; omega, has_new hgp, sl2.alloc _⟩
      have H12 : Hid (ps.length ≤ 900) := Lib.hid (by omega)
      have LE := Lib.hid (r9_length c NW.sl)
      have NH := Lib.hid NW
      have HW := Lib.hid hW
      have SM := Lib.hid (fun (x y : Int) (w' : World) (hs : Psl w' (.slice ao N cap) ps) => l9_same c x y hs H12.out)
      have n0 := (lenN_in ps (sidesN c ps.length)).1
      have n1 := (lenN_in ps (sidesN c ps.length)).2
      change 0 ≤ lengthL c ps at n0
      change lengthL c ps ≤ _ at n1
      obtain ⟨n, hn⟩ : ∃ n, lengthL c ps = n := ⟨_, rfl⟩
      rw [hn] at LE n0 n1
      clear hn hW NW b2 sl2 ho tp2 hg2 P1 B1 sm h12 hN
      go_upto_region 5 with fail
      rw [HW.out]
      clear hgp
      have a0 := NH.out.out.cell 0 _ rfl
      have a1 := NH.out.out.cell 1 _ rfl
      go_wp2_with fail
      refine LE.out.mono ?_
      rintro e w3 ⟨rfl, hb3⟩
      have N3 := Lib.hid (NH.out.later hb3)
      obtain ⟨g10, hg10⟩ : ∃ g, w3.heap.size = g := ⟨_, rfl⟩
      have HG10 := Lib.hid hg10
      clear hb3 NH HW a0 a1 LE
      go_wp2_with fail
      clear hg10
      go_loopw [29] (fun i wr => ∃ (p : Nat) (cs : Array Value), p ≤ 10 ∧ i = .int .i64 p ∧ Nm B w gp c (.slice ao N cap) ps wr ∧ Has wr g10 cs 2 ∧ AllI cs 10) (fun i _ => 10 - (intOf i).toNat)
      case atStart => exact ⟨0, _, by omega, rfl, N3.out.alloc _, has_new HG10.out, allI10⟩
      case round =>
        clear N3
        obtain ⟨p, cs, hp, rfl, hN5, hG5, hA5⟩ := hrel
        rename World => v5
        by_cases hlp : p < 10
        · have o2 : (p : Int) < 10 := by omega
          obtain ⟨x, hx⟩ := hA5 p hlp
          have cx := hG5.cell p _ hx
          have N5 := Lib.hid hN5
          have G5 := Lib.hid hG5
          have A5 := Lib.hid hA5
          obtain ⟨g9, hg9⟩ : ∃ g, v5.heap.size = g := ⟨_, rfl⟩
          have HG9 := Lib.hid hg9
          clear hN5 hG5 hA5 hx
          go_wp2_with fail
          clear hg9
          go_loopw [45] (fun i wr => ∃ (q : Nat) (ds : Array Value), q ≤ 9 ∧ i = .int .i64 q ∧ Nm B w gp c (.slice ao N cap) ps wr ∧ Has wr g10 cs 2 ∧ Has wr g9 ds 2 ∧ AllI ds 9) (fun i _ => 9 - (intOf i).toNat)
          case atStart => exact ⟨0, _, by omega, rfl, N5.out.alloc _, G5.out.alloc _, has_new HG9.out, allI9⟩
          case round =>
            clear N5 G5 cx
            obtain ⟨q, ds, hq, rfl, hN6, hG6, hD6, hA6⟩ := hrel
            rename World => v6
            by_cases hlq : q < 9
            · have o3 : (q : Int) < 9 := by omega
              obtain ⟨y, hy⟩ := hA6 q hlq
              have cy := hD6.cell q _ hy
              have a0 := hN6.out.cell 0 _ rfl
              have a1 := hN6.out.cell 1 _ rfl
              have N6 := Lib.hid hN6
              have G6 := Lib.hid hG6
              have D6 := Lib.hid hD6
              have A6 := Lib.hid hA6
              clear hN6 hG6 hD6 hA6 hy
              go_wp2_with fail
              refine (SM.out _ _ _ N6.out.sl).mono ?_
              rintro e w7 ⟨rfl, hq7⟩
              have N7 := Lib.hid (N6.out.later hq7)
              have G7 := Lib.hid (G6.out.below hq7 G6.out.lt)
              have D7 := Lib.hid (D6.out.below hq7 D6.out.lt)
              clear hq7 a0 a1 cy N6 G6 D6
              go_wp2
              go_roundw
              case rel => exact ⟨q + 1, ds, by omega, by go_num, N7.out, G7.out, D7.out, A6.out⟩
              case measure => simp [intOf]; omega
            · have o3 : ¬ (q : Int) < 9 := by omega
              have N6 := Lib.hid hN6
              have G6 := Lib.hid hG6
              clear hN6 hG6 hD6 hA6
              go_wp2
              go_roundw
              case rel => exact ⟨p + 1, cs, by omega, by go_num, N6.out, G6.out, A5.out⟩
              case measure => simp [intOf]; omega
        · have o2 : ¬ (p : Int) < 10 := by omega
          have N5 := Lib.hid hN5
          clear hN5 hG5 hA5
          go_wp2
          go_roundw
          case rel => exact ⟨k + 1, by omega, by go_num, N5.out.below, N5.out.size⟩
          case measure => simp [intOf]; omega
    · have ok : ¬ (k : Int) < 40 := by omega
      obtain ⟨g, hg⟩ : ∃ g, v4.heap.size = g := ⟨_, rfl⟩
      obtain ⟨W, hW⟩ : ∃ W, (v4.alloc (.cells #[.int .i64 9223372036854775807, .int .i64 (-9223372036854775808), .int .i64 (-9223372036854775808), .int .i64 0, .int .i64 536870912, .int .i64 536870912, .int .i64 (-536870912), .int .i64 1152921504606846976] 32)).alloc (.cells #[.bool true, .slice (some ⟨g, 0, none⟩) 4 4] 24) = W := ⟨_, rfl⟩
      have NW : Nm B w (g + 1) true (.slice (some ⟨g, 0, none⟩) 4 4) [⟨9223372036854775807, -9223372036854775808⟩, ⟨-9223372036854775808, 0⟩, ⟨536870912, 536870912⟩, ⟨-536870912, 1152921504606846976⟩] W := by
        have q := s4.out
        rw [← hW]
        exact ⟨(B4.out.alloc q _).alloc (by simp; omega) _, by simp; omega, has_new (by simp [hg]), psl_lit 4 4 rfl (by decide) ((has_new hg).alloc _) rfl⟩
      have NH := Lib.hid NW
      have HW := Lib.hid hW
      clear hW NW B4 s4
      go_upto_region 17 with fail
      rw [HW.out]
      clear hg
      have a0 := NH.out.out.cell 0 _ rfl
      have a1 := NH.out.out.cell 1 _ rfl
      go_wp2_with fail
      refine (l9_same true 5 1099511627776 NH.out.sl (by decide)).mono ?_
      rintro e w5 ⟨rfl, hq5⟩
      have N5 := Lib.hid (NH.out.later hq5)
      clear a0 a1 hq5
      have a0 := N5.out.out.cell 0 _ rfl
      have a1 := N5.out.out.cell 1 _ rfl
      go_wp2_with fail
      refine (l9_same true (-1) 4611686018427387904 N5.out.sl (by decide)).mono ?_
      rintro e w6 ⟨rfl, hq6⟩
      have N6 := Lib.hid (N5.out.later hq6)
      clear a0 a1 hq6
      go_wp2_with fail
      refine (known9 _).mono ?_
      rintro e w7 ⟨rfl, hq7⟩
      have N7 := Lib.hid (N6.out.later hq7)
      clear hq7
      go_wp2
      go_ret
      exact ⟨rfl, by rw [HB.out]; exact N7.out.below⟩

end Go.Proofs.Ytddcjdhlmlhgdaa

namespace Go.Proofs.Ytddcjdhlmlhgdaa.arcNumbers
open Go.ChangeShapes Go.WideShapes Go.ChangeAt Go.RowKit

theorem post_below {H : Type} {enc : TypeId × Value → H} {P : Program} {f : Func} {s : ChangeSpec} {apart fresh handsOn : Bool} {W V : World} {args : Array Value} {v : Value} {ds gs : List (DataW H)} {before pa pv : List MemPlace}
    (hW : DataW.Whole enc P f.params.toList s.vars apart W args.toList ds gs before)
    (hres : ∀ (b : Nat) (sp : Nat → Bool) (hd : Bool), DataW.TrodAll enc P V b sp hd f.resultTypes.toList (v.resultList f.resultTypes.size) (s.fn H (ds ++ gs)).results [])
    (hargs : ∀ sp : Nat → Bool, (∀ p ∈ before, sp p.block = true) → DataW.TrodAll enc P V 0 sp true f.params.toList args.toList (s.fn H (ds ++ gs)).args pa)
    (hvars : ∀ sp : Nat → Bool, (∀ p ∈ before, sp p.block = true) → DataW.TrodVars enc P V sp s.vars (s.fn H (ds ++ gs)).vars pv)
    (hps : before = pa ++ pv) (hb : Below W.heap.size W V) : s.post enc P f apart fresh handsOn false W args v V := by
  have hl : ∀ p ∈ before, (fun b => decide (b < W.heap.size)) p.block = true := fun p hp => by simpa using hW.lt p hp
  refine ⟨ds, gs, before, [], pa, pv, hW, hres _ _ _, hargs _ hl, hvars _ hl, World.keptBut_mono (fun p hp => ⟨hp, ?_⟩) (hb.frame (· ∈ before)), fun h => by cases h⟩
  rw [hps, List.mem_append] at hp
  exact Or.inr hp

theorem own : ownKnob Try.prog.godebug = none := by kernel_rfl

set_option maxRecDepth 100000 in
theorem lifted (os : Os) (started : os.Started) (H : Type) (enc : TypeId × Value → H) :
    ReturnsInHanded {} Try.checked os 3 .any (Rows.arcNumbersSpec.pre6 enc Try.prog Try.f3 Rows.arcNumbersRow.domain false) (Rows.arcNumbersSpec.post enc Try.prog Try.f3 false true false false) := by
  refine returnsInHanded_of_change (C := Try.checked) own started (by kernel_rfl) Try.func3
    (ChangeSpec.witness6 (enc := enc) (C := Try.checked) false ⟨#[], #[], []⟩ 8 (by kernel_rfl) (by kernel_rfl) (by kernel_rfl) (by kernel_rfl)) ?_
  intro W base args ds gs before hval0 hW hcnd _
  have hval : ∀ (j : Nat) t v, Try.f3.params[j]? = some t → args[j]? = some v → Value.okWide Try.prog W .any base t v := hval0
  have hW' := hW
  obtain ⟨p, q, hA0, hV, rfl, hfz, hnd⟩ := hW
  have hA : DataW.TrodAll enc Try.prog W 0 (fun _ => true) true Try.f3.params.toList args.toList ds p := hA0
  rw [Try.params3] at hA hval
  obtain ⟨rfl, rfl, rfl⟩ := trodAll_none hA
  obtain ⟨rfl, rfl⟩ := trodVars_none hV
  clear hA0 hval0
  simp only [List.append_nil] at hW'
  refine (arcNumbers_walk W).mono fun e W' ⟨he, hg⟩ => ?_
  subst he
  exact ⟨_, rfl, post_below (pa := []) (pv := []) hW' (fun _ _ _ => (trodAll_cons_mk (shut_bool Try.underlying4 _) trodAll_mk0)) (fun sp _ => rfl) (fun _ _ => rfl) rfl hg⟩

theorem over : Rows.arcNumbersRow.holds Try.pinned (OpenSpec.ofChange Rows.arcNumbersSpec) :=
  OpenClaim.holds_of_wide 3 Try.f3 rfl rfl rfl rfl rfl rfl rfl ⟨rfl, rfl, rfl, rfl, rfl⟩ rfl rfl rfl rfl rfl (by kernel_rfl) Try.func3 (by kernel_rfl)
    (of_decide_eq_true (by kernel_rfl)) (by unfold Func.isWrapper; first | (rw [if_pos (by decide +kernel)]; kernel_rfl) | (rw [if_neg (by decide +kernel)]; exact ⟨rfl, rfl⟩))
    (fun os started H enc _ => lifted os started H enc)

end Go.Proofs.Ytddcjdhlmlhgdaa.arcNumbers
namespace Go.Proofs.Ytddcjdhlmlhgdaa
theorem arcNumbers_holds : Rows.ArcNumbersSaid := arcNumbers.over
#print axioms arcNumbers_holds
end Go.Proofs.Ytddcjdhlmlhgdaa
