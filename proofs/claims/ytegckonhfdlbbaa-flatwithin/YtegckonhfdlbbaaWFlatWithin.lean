/- The walk of mutoscopelaw8.FlatWithin: it returns true; of the memory nothing that was there turns. No condition. -/
import Derived.Test.YtegckonhfdlbbaaK8
namespace Go.Proofs.Ytegckonhfdlbbaa
open Go Go.RowKit
open M

theorem tmod_near (a : Int) : -67108864 < a.tmod 67108864 ∧ a.tmod 67108864 < 67108864 := by
  constructor
  · have h := Int.lt_tmod_of_pos a (show (0 : Int) < 67108864 by decide)
    omega
  · exact Int.tmod_lt_of_pos a (by decide)
def remP (p : Pt) : Pt := ⟨p.x.tmod 67108864, p.y.tmod 67108864⟩
/-- An array of places in a block of its own. -/
def Arr (w : World) (g : Nat) (ls : List Pt) : Prop := Has w g (pls ls).toArray 40
theorem Arr.row {w : World} {g : Nat} {ls : List Pt} (h : Arr w g ls) (hf : ls.length ≤ 1000) : Prow w g 0 ls := prow_has hf h (by simp)
theorem Arr.put {w : World} {g n : Nat} {ls : List Pt} (h : Arr w g ls) (hn : n < ls.length) (p : Pt) : Arr ((w.setCell ⟨g, n * 2, none⟩ (.int .i64 p.x)).setCell ⟨g, n * 2 + 1, none⟩ (.int .i64 p.y)) g (ls.set n p) := by
  have := has_set (has_set h (n * 2) (.int .i64 p.x)) (n * 2 + 1) (.int .i64 p.y)
  unfold Arr
  rw [pls_set hn]
  simpa using this
theorem Arr.below {w w' : World} {g B : Nat} {ls : List Pt} (h : Arr w g ls) (hb : Below B w w') (hg : g < B) : Arr w' g ls := Has.below h hb hg
theorem Arr.lt {w : World} {g : Nat} {ls : List Pt} (h : Arr w g ls) : g < w.heap.size := Has.lt h

set_option maxRecDepth 100000 in
set_option maxHeartbeats 4000000 in
theorem within_core (a b c d : Pt) (w : World) : Calls Try.prog 4 #[.agg (pCells a), .agg (pCells b), .agg (pCells c), .agg (pCells d)] w fun r w' => r = .returned (.bool true) ∧ Below w.heap.size w w' := by
  obtain ⟨B, hB⟩ : ∃ B, w.heap.size = B := ⟨_, rfl⟩
  obtain ⟨W, hW⟩ : ∃ W, ((((w.alloc (.cells (pCells a) 35)).alloc (.cells (pCells b) 35)).alloc (.cells (pCells c) 35)).alloc (.cells (pCells d) 35)).alloc (.cells #[.int .i64 a.x, .int .i64 a.y, .int .i64 b.x, .int .i64 b.y, .int .i64 c.x, .int .i64 c.y, .int .i64 d.x, .int .i64 d.y] 40) = W := ⟨_, rfl⟩
  have bW : Below B w W := by rw [← hW]; exact (((((Below.refl _ _).alloc (by omega) _).alloc (by simp; omega) _).alloc (by simp; omega) _).alloc (by simp; omega) _).alloc (by simp; omega) _
  have aW : Arr W (B + 1 + 1 + 1 + 1) [a, b, c, d] := by rw [← hW]; exact has_new (by simp [hB])
  obtain ⟨l0, hl0⟩ : ∃ l, [a, b, c, d] = l := ⟨_, rfl⟩
  have l04 : l0.length = 4 := by rw [← hl0]; rfl
  rw [hl0] at aW
  have HW := Lib.hid hW
  have HB := Lib.hid hB
  have BW := Lib.hid bW
  have AW := Lib.hid aW
  have HL0 := Lib.hid hl0
  have HL4 := Lib.hid l04
  clear hW bW aW hl0 l04
  go_enter Try.func4, Try.ntmps4
  go_upto_region 2 with fail
  rw [HW.out]
  clear hB
  go_wp2
  go_loopw [23, 10] (fun i _ wr => ∃ (n : Nat) (ls : List Pt), n ≤ 4 ∧ i = .int .i64 n ∧ ls.length = 4 ∧ (∀ j, j < n → pt ls j = remP (pt l0 j)) ∧ (∀ j, n ≤ j → pt ls j = pt l0 j) ∧ Arr wr (B + 1 + 1 + 1 + 1) ls ∧ Below B w wr) (fun i _ _ => 4 - (intOf i).toNat)
  case atStart => exact ⟨0, l0, by omega, rfl, HL4.out, fun j hj => by omega, fun j _ => rfl, AW.out, BW.out⟩
  case round =>
    clear AW BW HW
    obtain ⟨n, ls, hn, rfl, hl, h1, h2, hA, hb⟩ := hrel
    by_cases hlt : n < 4
    · have o1 : (n : Int) < 4 := by omega
      have o2 : n < 4 := hlt
      have HA := Lib.hid hA
      have RW : Hid (∀ (R : World → Prop) (z : LaterR wr R), Prow z.to (B + 1 + 1 + 1 + 1) 0 ls) := Lib.hid (fun R z => (hA.row (by omega)).block (z.below.block _ hA.lt))
      have H12 := Lib.hid (And.intro h1 h2)
      have HBB := Lib.hid hb
      have HL := Lib.hid hl
      clear h1 h2 hA hb hl
      go_upto_region 5 with fail
      refine wp_region_make0 12 (by kernel_rfl) (by kernel_rfl) (by kernel_rfl) ?_
      apply Exists.intro
      refine ⟨fun R hR hN => ?_, ?_⟩
      · have x0 := fun z => (RW.out R z).c0 n (by have := HL.out; omega)
        have x1 := fun z => (RW.out R z).c1 n (by have := HL.out; omega)
        simp only [Nat.zero_add] at x0 x1
        simp only [List.take_succ_cons, List.take_zero]
        repeat (go_big_quiet_step (fail))
        exact wpQuiet_nil rfl
      · intro w3 hb3
        simp only [List.drop_succ_cons, List.drop_zero]
        have A3 := HA.out.below hb3 HA.out.lt
        have R3 := A3.row (by have := HL.out; omega)
        have c0 := R3.c0 n (by have := HL.out; omega)
        have c1 := R3.c1 n (by have := HL.out; omega)
        simp only [Nat.zero_add] at c0 c1
        have fz := has_fro A3
        have P4 := Lib.hid (A3.put (n := n) (by have := HL.out; omega) (remP (pt ls n)))
        have B4 : Hid (Below B w ((w3.setCell ⟨B + 1 + 1 + 1 + 1, n * 2, none⟩ (.int .i64 (remP (pt ls n)).x)).setCell ⟨B + 1 + 1 + 1 + 1, n * 2 + 1, none⟩ (.int .i64 (remP (pt ls n)).y))) := Lib.hid (((HBB.out.trans (hb3.mono (by have := HA.out.lt; omega))).setCell (by simp; omega) _).setCell (by simp; omega) _)
        clear A3 R3 hb3
        go_wp2
        go_roundw
        case rel =>
          refine ⟨n + 1, ls.set n (remP (pt ls n)), by omega, by go_num, by simpa using HL.out, fun j hj => ?_, fun j hj => ?_, P4.out, B4.out⟩
          · by_cases e : n = j
            · subst e; rw [pt_set_eq (by have := HL.out; omega), H12.out.2 n (Nat.le_refl _)]
            · rw [pt_set_ne e]; exact H12.out.1 j (by omega)
          · rw [pt_set_ne (by omega)]; exact H12.out.2 j (by omega)
        case measure => simp [intOf]; omega
    · obtain rfl : n = 4 := by omega
      have el : ls = [remP a, remP b, remP c, remP d] := by
        refine pts_ext (by rw [hl]; rfl) fun j hj => ?_
        rw [h1 j (by omega), ← HL0.out]
        rcases (show j = 0 ∨ j = 1 ∨ j = 2 ∨ j = 3 by omega) with rfl | rfl | rfl | rfl <;> rfl
      subst el
      have bd : ∀ p : Pt, -67108864 < (remP p).x ∧ (remP p).x < 67108864 ∧ -67108864 < (remP p).y ∧ (remP p).y < 67108864 := fun p => ⟨(tmod_near p.x).1, (tmod_near p.x).2, (tmod_near p.y).1, (tmod_near p.y).2⟩
      obtain ⟨a1, ha1⟩ : ∃ p, remP a = p := ⟨_, rfl⟩
      obtain ⟨b1, hb1⟩ : ∃ p, remP b = p := ⟨_, rfl⟩
      obtain ⟨c1, hc1⟩ : ∃ p, remP c = p := ⟨_, rfl⟩
      obtain ⟨d1, hd1⟩ : ∃ p, remP d = p := ⟨_, rfl⟩
      have ba := bd a
      have bb := bd b
      have bc := bd c
      have bdd := bd d
      rw [ha1] at ba hA
      rw [hb1] at bb hA
      rw [hc1] at bc hA
      rw [hd1] at bdd hA
      have ra : Rg a1 := by unfold Rg In64; omega
      have rb : Rg b1 := by unfold Rg In64; omega
      have rc : Rg c1 := by unfold Rg In64; omega
      have rd : Rg d1 := by unfold Rg In64; omega
      have BD := Lib.hid (f_Bend wr ra rb rc rd)
      have k0 : wr.cell? ⟨B + 1 + 1 + 1 + 1, 0, none⟩ = some (.int .i64 a1.x) := Has.cell hA 0 _ rfl
      have k1 : wr.cell? ⟨B + 1 + 1 + 1 + 1, 1, none⟩ = some (.int .i64 a1.y) := Has.cell hA 1 _ rfl
      have k2 : wr.cell? ⟨B + 1 + 1 + 1 + 1, 2, none⟩ = some (.int .i64 b1.x) := Has.cell hA 2 _ rfl
      have k3 : wr.cell? ⟨B + 1 + 1 + 1 + 1, 3, none⟩ = some (.int .i64 b1.y) := Has.cell hA 3 _ rfl
      have k4 : wr.cell? ⟨B + 1 + 1 + 1 + 1, 4, none⟩ = some (.int .i64 c1.x) := Has.cell hA 4 _ rfl
      have k5 : wr.cell? ⟨B + 1 + 1 + 1 + 1, 5, none⟩ = some (.int .i64 c1.y) := Has.cell hA 5 _ rfl
      have k6 : wr.cell? ⟨B + 1 + 1 + 1 + 1, 6, none⟩ = some (.int .i64 d1.x) := Has.cell hA 6 _ rfl
      have k7 : wr.cell? ⟨B + 1 + 1 + 1 + 1, 7, none⟩ = some (.int .i64 d1.y) := Has.cell hA 7 _ rfl
      have AH := Lib.hid hA
      have BB := Lib.hid hb
      clear h1 h2 hl hA hb bd ha1 hb1 hc1 hd1 ba bb bc bdd ra rb rc rd hn hlt
      go_wp2_with fail
      refine BD.out.mono ?_
      rintro e w2 ⟨g2, cap2, rfl, ho2, hb2⟩
      rw [bendL_length] at ho2 ⊢
      have A2 := Lib.hid (AH.out.below hb2 AH.out.lt)
      have R2 := Lib.hid (ho2.row (by rw [bendL_length]; decide) (by rw [bendL_length]; decide))
      have B2 := Lib.hid (BB.out.trans (hb2.mono (by have := AH.out.lt; omega)))
      have O2 := Lib.hid ho2
      have j6 : w2.cell? ⟨B + 1 + 1 + 1 + 1, 6, none⟩ = some (.int .i64 d1.x) := Has.cell A2.out 6 _ rfl
      have j7 : w2.cell? ⟨B + 1 + 1 + 1 + 1, 7, none⟩ = some (.int .i64 d1.y) := Has.cell A2.out 7 _ rfl
      have m0 := R2.out.c0 7 (by rw [bendL_length]; decide)
      have m1 := R2.out.c1 7 (by rw [bendL_length]; decide)
      rw [bendL_last 3] at m0 m1
      simp only [Nat.zero_add, Nat.reduceMul, Nat.reduceAdd] at m0 m1
      clear ho2 hb2 k0 k1 k2 k3 k4 k5 k6 k7 AH BB BD
      go_wp2_with fail
      go_quiet (fail)
      obtain ⟨V, hV⟩ : ∃ V, w2.drewN nq = V := ⟨_, rfl⟩
      have AV : Hid (Arr V (B + 1 + 1 + 1 + 1) [a1, b1, c1, d1]) := Lib.hid (by rw [← hV]; exact Has.drewN A2.out nq)
      have RV : Hid (Prow V g2 0 (bendL 3 a1 b1 c1 d1)) := Lib.hid (by rw [← hV]; exact R2.out.block rfl)
      have BV : Hid (Below B w V) := Lib.hid (by rw [← hV]; exact below_drewN B2.out nq)
      rw [hV]
      clear j6 j7 m0 m1 A2 R2 B2 O2 hV
      obtain ⟨l1, hl1⟩ : ∃ l, [a1, b1, c1, d1] = l := ⟨_, rfl⟩
      have k0 : V.cell? ⟨B + 1 + 1 + 1 + 1, 0, none⟩ = some (.int .i64 a1.x) := Has.cell AV.out 0 _ rfl
      have k1 : V.cell? ⟨B + 1 + 1 + 1 + 1, 1, none⟩ = some (.int .i64 a1.y) := Has.cell AV.out 1 _ rfl
      rw [hl1] at AV
      have L1 := Lib.hid hl1
      have L4 : Hid (l1.length = 4) := Lib.hid (by rw [← hl1]; rfl)
      clear hl1
      go_wp2
      go_quiet (fail)
      obtain ⟨U, hU⟩ : ∃ V', V.drewN nq = V' := ⟨_, rfl⟩
      have AU : Hid (Arr U (B + 1 + 1 + 1 + 1) l1) := Lib.hid (by rw [← hU]; exact Has.drewN AV.out nq)
      have RU : Hid (Prow U g2 0 (bendL 3 a1 b1 c1 d1)) := Lib.hid (by rw [← hU]; exact RV.out.block rfl)
      have BU : Hid (Below B w U) := Lib.hid (by rw [← hU]; exact below_drewN BV.out nq)
      rw [hU]
      clear k0 k1 AV RV BV hU
      go_wp2
      go_loopw [72, 12, 13, 14, 15, 16] (fun i x0 x1 y0 y1 _ wr => ∃ (n : Nat) (X0 X1 Y0 Y1 : Int), n ≤ 4 ∧ i = .int .i64 n ∧ x0 = .int .i64 X0 ∧ x1 = .int .i64 X1 ∧ y0 = .int .i64 Y0 ∧ y1 = .int .i64 Y1 ∧ (∀ j, j < n ∨ j = 0 → Bx X0 X1 Y0 Y1 (pt l1 j)) ∧ Below U.heap.size U wr) (fun i _ _ _ _ _ _ => 4 - (intOf i).toNat)
      case atStart =>
        refine ⟨0, _, _, _, _, by omega, rfl, rfl, rfl, rfl, rfl, fun j hj => ?_, Below.refl _ _⟩
        obtain rfl : j = 0 := by omega
        rw [← L1.out]
        exact ⟨Int.le_refl _, Int.le_refl _, Int.le_refl _, Int.le_refl _⟩
      case round =>
        obtain ⟨n, X0, X1, Y0, Y1, hn, rfl, rfl, rfl, rfl, rfl, hbx, hbd⟩ := hrel
        by_cases hlt : n < 4
        · have rw1 := (AU.out.row (by have := L4.out; omega)).block (hbd.block _ AU.out.lt)
          have c0 := rw1.c0 n (by have := L4.out; omega)
          have c1' := rw1.c1 n (by have := L4.out; omega)
          simp only [Nat.zero_add] at c0 c1'
          obtain ⟨p, hp⟩ : ∃ p, pt l1 n = p := ⟨_, rfl⟩
          rw [hp] at c0 c1'
          have o1 : (n : Int) < 4 := by omega
          have o2 : n < 4 := hlt
          have HBX := Lib.hid hbx
          have HP := Lib.hid hp
          have HBD := Lib.hid hbd
          clear rw1 hp hbx hbd
          obtain ⟨px, py⟩ := p
          simp only at c0 c1'
          go_wp2
          go_quiet (fail)
          have HZ := Lib.hid (below_drewN HBD.out nq)
          go_wp2
          go_roundw
          case rel =>
            refine ⟨n + 1, _, _, _, _, by omega, by go_num, rfl, rfl, rfl, rfl, fun j hj => ?_, HZ.out⟩
            by_cases e : j = n
            · subst e
              rw [HP.out]
              unfold Bx
              simp only
              refine ⟨?_, ?_, ?_, ?_⟩ <;> first | omega | (split <;> omega)
            · have := HBX.out j (by omega)
              unfold Bx at this ⊢
              refine ⟨?_, ?_, ?_, ?_⟩ <;> first | omega | (split <;> omega)
          case measure => simp [intOf]; omega
        · have bx : ∀ i, i < 8 → Bx X0 X1 Y0 Y1 (pt (bendL 3 a1 b1 c1 d1) i) := by
            have q := fun j (hj : j < 4) => hbx j (Or.inl (by omega))
            rw [← L1.out] at q
            intro i hi
            exact bendL_box 3 a1 b1 c1 d1 (q 0 (by omega)) (q 1 (by omega)) (q 2 (by omega)) (q 3 (by omega)) i hi
          have HBX := Lib.hid bx
          have R3 : Hid (Prow wr g2 0 (bendL 3 a1 b1 c1 d1)) := Lib.hid (RU.out.block (hbd.block _ (RU.out.lt (by rw [bendL_length]; decide))))
          have B3 : Hid (Below B w wr) := Lib.hid (BU.out.trans (hbd.mono (by have := BU.out.size; have := HB.out; omega)))
          have o1 : ¬ (n : Int) < 4 := by omega
          clear bx hbx hbd AU RU BU
          go_wp2
          rename World => v1
          go_loopw [102, 17] (fun i _ wr => ∃ m : Nat, m ≤ 8 ∧ i = .int .i64 m ∧ wr = v1) (fun i _ _ => 8 - (intOf i).toNat)
          case atStart => exact ⟨0, by omega, rfl, rfl⟩
          case round =>
            obtain ⟨m, hm, rfl, rfl⟩ := hrel
            by_cases hlt : m < 8
            · have c0 := R3.out.c0 m (by rw [bendL_length]; omega)
              have c1' := R3.out.c1 m (by rw [bendL_length]; omega)
              simp only [Nat.zero_add] at c0 c1'
              have q := HBX.out m hlt
              obtain ⟨p, hp⟩ : ∃ p, pt (bendL 3 a1 b1 c1 d1) m = p := ⟨_, rfl⟩
              rw [hp] at c0 c1' q
              obtain ⟨px, py⟩ := p
              unfold Bx at q
              simp only at c0 c1' q
              obtain ⟨q1, q2, q3, q4⟩ := q
              have o2 : (m : Int) < 8 := by omega
              have o3 : m < 8 := hlt
              clear hp
              go_wp2
              go_roundw
              case rel => exact ⟨m + 1, by omega, by go_num, by first | trivial | rfl⟩
              case measure => simp [intOf]; omega
            · have o2 : ¬ (m : Int) < 8 := by omega
              go_wp2_with fail
              refine (known8 _).mono ?_
              rintro e w8 ⟨rfl, hq8⟩
              have B8 : Hid (Below B w w8) := Lib.hid (B3.out.trans (hq8.mono (by have := B3.out.size; have := HB.out; omega)))
              clear hq8
              go_wp2
              go_ret
              exact ⟨rfl, by rw [HB.out]; exact B8.out⟩

theorem flatWithin_walk (a0 a1 b0 b1 c0 c1 d0 d1 : Int) (_ : (Lit.int .i64 a0).wf = true) (_ : (Lit.int .i64 a1).wf = true) (_ : (Lit.int .i64 b0).wf = true) (_ : (Lit.int .i64 b1).wf = true) (_ : (Lit.int .i64 c0).wf = true) (_ : (Lit.int .i64 c1).wf = true) (_ : (Lit.int .i64 d0).wf = true) (_ : (Lit.int .i64 d1).wf = true) (w : World) :
    Calls Try.prog 4 #[.agg #[.int .i64 a0, .int .i64 a1], .agg #[.int .i64 b0, .int .i64 b1], .agg #[.int .i64 c0, .int .i64 c1], .agg #[.int .i64 d0, .int .i64 d1]] w fun r w' => r = .returned (.bool true) ∧ Below w.heap.size w w' :=
  within_core ⟨a0, a1⟩ ⟨b0, b1⟩ ⟨c0, c1⟩ ⟨d0, d1⟩ w

end Go.Proofs.Ytegckonhfdlbbaa
