/- The walk of mutoscopelaw3.MatNumbers: it returns true; of the memory nothing that was there turns. No condition. -/
import Derived.Test.YtcmmihjhfmhkkaaS3
import Derived.Test.YtcmmihjhfmhkkaaK3
import Derived.Deep.RegionHeld3
import Derived.Deep.DrawnRows
namespace Go.Proofs.Ytcmmihjhfmhkkaa
open Go.RowKit
open M

/-- Both answers are one. -/
theorem made_both (x y ax ay sx sy t : Int) : ∃ A B C D E F : Int,
    (∀ w, Calls Try.prog 7 #[.int .i64 x, .int .i64 y, .int .i64 ax, .int .i64 ay, .int .i64 sx, .int .i64 sy, .int .i64 t] w fun r w' => r = .returned (.agg #[.int .i64 A, .int .i64 B, .int .i64 C, .int .i64 D, .int .i64 E, .int .i64 F]) ∧ Below w.heap.size w w') ∧
    (∀ w, Calls Try.prog 8 #[.int .i64 x, .int .i64 y, .int .i64 ax, .int .i64 ay, .int .i64 sx, .int .i64 sy, .int .i64 t] w fun r w' => r = .returned (.agg #[.int .i64 A, .int .i64 B, .int .i64 C, .int .i64 D, .int .i64 E, .int .i64 F]) ∧ Below w.heap.size w w') :=
  ⟨_, _, _, _, _, _, fun w => m_made x y ax ay sx sy t w, fun w => r3_made x y ax ay sx sy t w⟩

def bigInts : List Int := [0, 1, -1, 65536, -65536, 67108864, 536870912, 1099511627776, 9223372036854775807, -9223372036854775808]
def bigs : Array Value := #[.int .i64 0, .int .i64 1, .int .i64 (-1), .int .i64 65536, .int .i64 (-65536), .int .i64 67108864, .int .i64 536870912, .int .i64 1099511627776, .int .i64 9223372036854775807, .int .i64 (-9223372036854775808)]

theorem big_cell {w : World} {g : Nat} (h : Has w g bigs 2) (k : Nat) (hk : k < 10) : w.cell? ⟨g, k, none⟩ = some (.int .i64 (bigInts.getD k 0)) := by
  refine h.cell k _ ?_
  have hl : k < bigInts.length := hk
  show (bigInts.map (Value.int .i64)).toArray[k]? = _
  rw [List.getElem?_toArray, List.getElem?_map, List.getElem?_eq_getElem hl]
  simp [List.getD, List.getElem?_eq_getElem hl]

attribute [local go_sem ↓] Go.wp_at_zero Go.wp_at_succ
set_option maxHeartbeats 4000000 in
set_option maxRecDepth 100000 in
theorem matNumbers_walk (w : World) :
    Calls Try.prog 3 #[] w fun e w' => e = .returned (.bool true) ∧ Below w.heap.size w w' := by
  have H0 : Has (w.alloc (.cells bigs 2)) w.heap.size bigs 2 := has_new rfl
  have hB : Below w.heap.size w (w.alloc (.cells bigs 2)) := (Below.refl _ _).alloc (Nat.le_refl _) _
  have HH := Lib.hid H0
  have HB := Lib.hid hB
  clear H0 hB
  go_enter Try.func3, Try.ntmps3
  go_wp2
  go_loopw [2, 3, 4] (fun i _ _ wr => ∃ k : Int, 0 ≤ k ∧ k ≤ 17 ∧ i = .int .i64 k ∧ Has wr w.heap.size bigs 2 ∧ Below w.heap.size w wr) (fun i _ _ _ => (17 - intOf i).toNat)
  case atStart => exact ⟨0, by omega, by omega, rfl, HH.out, HB.out⟩
  case round =>
    clear HH HB
    obtain ⟨k, hk0, hk, rfl, hh, hb⟩ := hrel
    have HH := Lib.hid hh
    have HB := Lib.hid hb
    clear hh hb
    by_cases hlt : k < 17
    · go_wp2
      go_loopw [3, 4] (fun i _ wr => ∃ j : Int, -2 ≤ j ∧ j ≤ 4 ∧ i = .int .i64 j ∧ Has wr w.heap.size bigs 2 ∧ Below w.heap.size w wr) (fun i _ _ => (4 - intOf i).toNat)
      case atStart => exact ⟨-2, by omega, by omega, rfl, HH.out, HB.out⟩
      case round =>
        clear HH HB
        obtain ⟨j, hj0, hj, rfl, hh, hb⟩ := hrel
        have HH := Lib.hid hh
        have HB := Lib.hid hb
        clear hh hb
        by_cases hlj : j < 4
        · obtain ⟨A, B, C, D, E, F, h1, h2⟩ := made_both (k * 65536) (j * 300) (j * 65536) (-k) ((j * 65536).tdiv 2) (k * 9999) (k * 45 * 65536 / 2)
          have M1 := Lib.hid h1
          have M2 := Lib.hid h2
          clear h1 h2
          go_wp2_with fail
          refine (M1.out _).mono ?_
          rintro e w1 ⟨rfl, hq⟩
          have hh1 : Has w1 w.heap.size bigs 2 := HH.out.below hq HH.out.lt
          have hb1 : Below w.heap.size w w1 := HB.out.trans (hq.mono HB.out.size)
          have HH1 := Lib.hid hh1
          have HB1 := Lib.hid hb1
          clear hq hh1 hb1 HH HB
          go_wp2_with fail
          obtain ⟨W, hW⟩ : ∃ W, w1.alloc (.cells #[.int .i64 A, .int .i64 B, .int .i64 C, .int .i64 D, .int .i64 E, .int .i64 F] 24) = W := ⟨_, rfl⟩
          have H0 : Has W w1.heap.size #[.int .i64 A, .int .i64 B, .int .i64 C, .int .i64 D, .int .i64 E, .int .i64 F] 24 := by rw [← hW]; exact has_new rfl
          have hh2 : Has W w.heap.size bigs 2 := by rw [← hW]; exact HH1.out.alloc _
          have hb2 : Below w.heap.size w W := by rw [← hW]; exact HB1.out.alloc HB1.out.size _
          rw [hW]
          have r0 := Later.read H0 0 _ rfl
          have r1 := Later.read H0 1 _ rfl
          have r2 := Later.read H0 2 _ rfl
          have r3 := Later.read H0 3 _ rfl
          have r4 := Later.read H0 4 _ rfl
          have r5 := Later.read H0 5 _ rfl
          have HH2 := Lib.hid hh2
          have HB2 := Lib.hid hb2
          clear H0 hh2 hb2 hW HH1 HB1
          refine wp_region_class (C := fun w' => ∃ z : Later W, w' = z.to) (by kernel_rfl) (by kernel_rfl) ⟨⟨_, below_drew (Below.refl _ _)⟩, rfl⟩ ?_
          try simp only [List.append_eq, List.cons_append, List.nil_append]
          repeat (go_big_quiet_step (first | (go_at_call 8; exact Later.calls (M2.out _)) | (go_at_call 9; exact Later.calls (l3_same _ _ _ _ _ _ _ _ _ _ _ _ _ _ _))))
          refine wpQuiet_nil ?_
          rintro _ ⟨z, rfl⟩
          have hh3 : Has z.to w.heap.size bigs 2 := HH2.out.below z.below HH2.out.lt
          have hb3 : Below w.heap.size w z.to := HB2.out.trans (z.below.mono HB2.out.size)
          have HH3 := Lib.hid hh3
          have HB3 := Lib.hid hb3
          clear r0 r1 r2 r3 r4 r5 hh3 hb3 HH2 HB2 M1 M2
          obtain ⟨wz, hwz⟩ : ∃ wz, z.to = wz := ⟨_, rfl⟩
          rw [hwz] at HH3 HB3 ⊢
          clear hwz z
          go_wp2
          go_roundw
          case rel => exact ⟨j + 1, by omega, by omega, by go_num, HH3.out, HB3.out⟩
          case measure => simp [intOf]; omega
        · go_wp2
          go_roundw
          case rel => exact ⟨k + 1, by omega, by omega, by go_num, HH.out, HB.out⟩
          case measure => simp [intOf]; omega
    · go_wp2
      clear hlt hk0 hk
      go_loopw [5, 6, 7, 67] (fun _ _ _ i wr => ∃ k : Nat, k ≤ 10 ∧ i = .int .i64 k ∧ Has wr w.heap.size bigs 2 ∧ Below w.heap.size w wr) (fun _ _ _ i _ => 10 - (intOf i).toNat)
      case atStart => exact ⟨0, by omega, rfl, HH.out, HB.out⟩
      case round =>
        clear HH HB
        obtain ⟨k, hk, rfl, hh, hb⟩ := hrel
        have HH := Lib.hid hh
        have HB := Lib.hid hb
        clear hh hb
        by_cases hlt : k < 10
        · have o1 : (k : Int) < 10 := by omega
          go_wp2
          go_loopw [6, 7, 72] (fun _ _ i wr => ∃ j : Nat, j ≤ 10 ∧ i = .int .i64 j ∧ Has wr w.heap.size bigs 2 ∧ Below w.heap.size w wr) (fun _ _ i _ => 10 - (intOf i).toNat)
          case atStart => exact ⟨0, by omega, rfl, HH.out, HB.out⟩
          case round =>
            clear HH HB
            obtain ⟨j, hj, rfl, hh, hb⟩ := hrel
            have HH := Lib.hid hh
            have HB := Lib.hid hb
            clear hh hb
            by_cases hlj : j < 10
            · obtain ⟨m3, hm3, em3⟩ : ∃ m : Nat, m < 10 ∧ ((k : Int) + j).tmod 10 = (m : Int) := ⟨(k + j) % 10, by omega, by rw [Int.tmod_eq_emod_of_nonneg (by omega)]; omega⟩
              have ew3 : IntKind.i64.wrap ((k : Int) + j) = (k : Int) + j := IntWalk.i64_in _ (by omega)
              obtain ⟨m4, hm4, em4⟩ : ∃ m : Nat, m < 10 ∧ ((k : Int) + 3).tmod 10 = (m : Int) := ⟨(k + 3) % 10, by omega, by rw [Int.tmod_eq_emod_of_nonneg (by omega)]; omega⟩
              have ew4 : IntKind.i64.wrap ((k : Int) + 3) = (k : Int) + 3 := IntWalk.i64_in _ (by omega)
              obtain ⟨m5, hm5, em5⟩ : ∃ m : Nat, m < 10 ∧ ((j : Int) + 5).tmod 10 = (m : Int) := ⟨(j + 5) % 10, by omega, by rw [Int.tmod_eq_emod_of_nonneg (by omega)]; omega⟩
              have ew5 : IntKind.i64.wrap ((j : Int) + 5) = (j : Int) + 5 := IntWalk.i64_in _ (by omega)
              have q1 := big_cell HH.out k hlt
              obtain ⟨x1, hx⟩ : ∃ x, bigInts.getD k 0 = x := ⟨_, rfl⟩
              rw [hx] at q1
              clear hx
              have n1 := World.new_ne wr _ q1
              have p1 : (0 : Int) ≤ (k : Int) := by omega
              have q2 := big_cell HH.out j hlj
              obtain ⟨x2, hx⟩ : ∃ x, bigInts.getD j 0 = x := ⟨_, rfl⟩
              rw [hx] at q2
              clear hx
              have n2 := World.new_ne wr _ q2
              have p2 : (0 : Int) ≤ (j : Int) := by omega
              have o2 : (j : Int) < 10 := by omega
              have q3 := big_cell HH.out m3 hm3
              obtain ⟨x3, hx⟩ : ∃ x, bigInts.getD m3 0 = x := ⟨_, rfl⟩
              rw [hx] at q3
              clear hx
              have n3 := World.new_ne wr _ q3
              have p3 : (0 : Int) ≤ (m3 : Int) := by omega
              have o3 : (m3 : Int) < 10 := by omega
              have q4 := big_cell HH.out m4 hm4
              obtain ⟨x4, hx⟩ : ∃ x, bigInts.getD m4 0 = x := ⟨_, rfl⟩
              rw [hx] at q4
              clear hx
              have n4 := World.new_ne wr _ q4
              have p4 : (0 : Int) ≤ (m4 : Int) := by omega
              have o4 : (m4 : Int) < 10 := by omega
              have q5 := big_cell HH.out m5 hm5
              obtain ⟨x5, hx⟩ : ∃ x, bigInts.getD m5 0 = x := ⟨_, rfl⟩
              rw [hx] at q5
              clear hx
              have n5 := World.new_ne wr _ q5
              have p5 : (0 : Int) ≤ (m5 : Int) := by omega
              have o5 : (m5 : Int) < 10 := by omega
              go_wp2
              go_region_held3 (fun w' => w'.cell? ⟨w.heap.size, k, none⟩ = some (.int .i64 x1) ∧ w'.cell? ⟨w.heap.size, j, none⟩ = some (.int .i64 x2) ∧ w'.cell? ⟨w.heap.size, m3, none⟩ = some (.int .i64 x3) ∧ w'.cell? ⟨w.heap.size, m4, none⟩ = some (.int .i64 x4) ∧ w'.cell? ⟨w.heap.size, m5, none⟩ = some (.int .i64 x5)) (go_keep) (fail)
              rename_i hheld
              clear hheld
              obtain ⟨W, hW⟩ : ∃ W, (wr.alloc (.cells #[.int .i64 x1, .int .i64 x2, .int .i64 x3, .int .i64 x4, .int .i64 x5, .int .i64 x1] 24)).drew = W := ⟨_, rfl⟩
              have H0 : Has W wr.heap.size #[.int .i64 x1, .int .i64 x2, .int .i64 x3, .int .i64 x4, .int .i64 x5, .int .i64 x1] 24 := by rw [← hW]; exact (has_new rfl).drewN 1
              have hh2 : Has W w.heap.size bigs 2 := by rw [← hW]; exact (HH.out.alloc _).drewN 1
              have hb2 : Below w.heap.size w W := by rw [← hW]; exact (HB.out.alloc HB.out.size _).drew
              rw [hW]
              have r0 := Later.read H0 0 _ rfl
              have r1 := Later.read H0 1 _ rfl
              have r2 := Later.read H0 2 _ rfl
              have r3 := Later.read H0 3 _ rfl
              have r4 := Later.read H0 4 _ rfl
              have r5 := Later.read H0 5 _ rfl
              have t1 : ∀ z : Later W, z.to.cell? ⟨w.heap.size, k, none⟩ = some (.int .i64 x1) := fun z => by
                rw [z.cell hh2.lt, ← hW]
                exact (((Below.refl wr.heap.size wr).alloc (Nat.le_refl _) _).cell HH.out.lt).trans q1
              have t2 : ∀ z : Later W, z.to.cell? ⟨w.heap.size, j, none⟩ = some (.int .i64 x2) := fun z => by
                rw [z.cell hh2.lt, ← hW]
                exact (((Below.refl wr.heap.size wr).alloc (Nat.le_refl _) _).cell HH.out.lt).trans q2
              have HH2 := Lib.hid hh2
              have HB2 := Lib.hid hb2
              clear H0 hh2 hb2 hW HH HB q1 q2 q3 q4 q5 n1 n2 n3 n4 n5 em3 em4 em5 ew3 ew4 ew5
              go_wp2_with fail
              refine wp_region_class (C := fun w' => ∃ z : Later W, w' = z.to) (by kernel_rfl) (by kernel_rfl) ⟨⟨_, below_drew (Below.refl _ _)⟩, rfl⟩ ?_
              try simp only [List.append_eq, List.cons_append, List.nil_append]
              repeat (go_big_quiet_step (first | (go_at_call 9; exact Later.calls (l3_same _ _ _ _ _ _ _ _ _ _ _ _ _ _ _))))
              refine wpQuiet_nil ?_
              rintro _ ⟨z, rfl⟩
              have hh3 : Has z.to w.heap.size bigs 2 := HH2.out.below z.below HH2.out.lt
              have hb3 : Below w.heap.size w z.to := HB2.out.trans (z.below.mono HB2.out.size)
              have HH3 := Lib.hid hh3
              have HB3 := Lib.hid hb3
              clear r0 r1 r2 r3 r4 r5 t1 t2 hh3 hb3 HH2 HB2
              obtain ⟨wz, hwz⟩ : ∃ wz, z.to = wz := ⟨_, rfl⟩
              rw [hwz] at HH3 HB3 ⊢
              clear hwz z
              go_wp2
              go_roundw
              case rel => exact ⟨j + 1, by omega, by go_num, HH3.out, HB3.out⟩
              case measure => simp [intOf]; omega
            · go_wp2
              go_roundw
              case rel => exact ⟨k + 1, by omega, by go_num, HH.out, HB.out⟩
              case measure => simp [intOf]; omega
        · go_wp2_with fail
          refine (known3 _).mono ?_
          rintro e w1 ⟨rfl, hq⟩
          go_wp2
          go_ret
          exact ⟨rfl, HB.out.trans (hq.mono HB.out.size)⟩

end Go.Proofs.Ytcmmihjhfmhkkaa
