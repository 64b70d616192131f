/- The walk of mutoscopelaw4.EaseNumbers: it returns true; of the memory nothing that was there turns. No condition. -/
import Derived.Test.YtkecgfelbcjonaaS4
import Derived.Test.YtkecgfelbcjonaaQt
namespace Go.Proofs.Ytkecgfelbcjonaa
open Go.RowKit
open M

def asInts : List Int := [-1, 0, 1, 21845, 65536, 65537]
def asCells : Array Value := #[.int .i64 (-1), .int .i64 0, .int .i64 1, .int .i64 21845, .int .i64 65536, .int .i64 65537]
def bsInts : List Int := [-131073, -131072, 0, 65536, 196608, 196609, 4611686018427387904]
def bsCells : Array Value := #[.int .i64 (-131073), .int .i64 (-131072), .int .i64 0, .int .i64 65536, .int .i64 196608, .int .i64 196609, .int .i64 4611686018427387904]
def gsInts : List Int := [-9223372036854775808, -9223372036854775807, -1073741824, -1, 0, 1, 2, 7, 1073741824, 4611686018427387909, 9223372036854775807]
def gsCells : Array Value := #[.int .i64 (-9223372036854775808), .int .i64 (-9223372036854775807), .int .i64 (-1073741824), .int .i64 (-1), .int .i64 0, .int .i64 1, .int .i64 2, .int .i64 7, .int .i64 1073741824, .int .i64 4611686018427387909, .int .i64 9223372036854775807]

theorem row_cell {w : World} {g : Nat} {l : List Int} (h : Has w g (l.map (Value.int .i64)).toArray 2) (k : Nat) (hk : k < l.length) : w.cell? ⟨g, k, none⟩ = some (.int .i64 (l.getD k 0)) := by
  refine h.cell k _ ?_
  rw [List.getElem?_toArray, List.getElem?_map, List.getElem?_eq_getElem hk]
  simp [List.getD, List.getElem?_eq_getElem hk]
theorem as_bd : ∀ k : Fin 6, -1 ≤ asInts.getD k.val 0 ∧ asInts.getD k.val 0 ≤ 65537 := by decide
theorem bs_bd : ∀ k : Fin 7, -131073 ≤ bsInts.getD k.val 0 ∧ bsInts.getD k.val 0 ≤ 4611686018427387904 := by decide

set_option maxHeartbeats 4000000 in
set_option maxRecDepth 100000 in
theorem easeNumbers_walk (w : World) :
    Calls Try.prog 3 #[] w fun e w' => e = .returned (.bool true) ∧ Below w.heap.size w w' := by
  have H0 : Has (w.alloc (.cells asCells 2)) w.heap.size asCells 2 := has_new rfl
  have hB : Below w.heap.size w (w.alloc (.cells asCells 2)) := (Below.refl _ _).alloc (Nat.le_refl _) _
  have HH := Lib.hid H0
  have HB := Lib.hid hB
  clear H0 hB
  go_enter Try.func3, Try.ntmps3
  go_wp2
  go_loopw [2, 4, 5, 6, 13] (fun _ _ _ _ i wr => ∃ k : Nat, k ≤ 6 ∧ i = .int .i64 k ∧ Has wr w.heap.size asCells 2 ∧ Below w.heap.size w wr) (fun _ _ _ _ i _ => 6 - (intOf i).toNat)
  case atStart => exact ⟨0, by omega, rfl, HH.out, HB.out⟩
  case round =>
    clear HH HB
    obtain ⟨k, hk, rfl, hh, hb⟩ := hrel
    rename World => v1
    by_cases hlt : k < 6
    · have o1 : (k : Int) < 6 := by omega
      have p1 : (0 : Int) ≤ (k : Int) := by omega
      have c1 := row_cell (l := asInts) hh k hlt
      obtain ⟨A0, A1⟩ := as_bd ⟨k, hlt⟩
      obtain ⟨A, hA⟩ : ∃ A, asInts.getD k 0 = A := ⟨_, rfl⟩
      simp only [hA] at c1 A0 A1
      clear hA
      have HH := Lib.hid hh
      have HB := Lib.hid hb
      clear hh hb
      have hg : Has (v1.alloc (.cells bsCells 2)) v1.heap.size bsCells 2 := has_new rfl
      have hh1 : Has (v1.alloc (.cells bsCells 2)) w.heap.size asCells 2 := HH.out.alloc _
      have hb1 : Below w.heap.size w (v1.alloc (.cells bsCells 2)) := HB.out.alloc HB.out.size _
      have HG := Lib.hid hg
      have HH1 := Lib.hid hh1
      have HB1 := Lib.hid hb1
      clear hg hh1 hb1 HH HB
      go_wp2
      clear c1
      go_loopw [4, 5, 6, 19] (fun _ _ _ i wq => ∃ j : Nat, j ≤ 7 ∧ i = .int .i64 j ∧ Has wq v1.heap.size bsCells 2 ∧ Has wq w.heap.size asCells 2 ∧ Below w.heap.size w wq) (fun _ _ _ i _ => 7 - (intOf i).toNat)
      case atStart => exact ⟨0, by omega, rfl, HG.out, HH1.out, HB1.out⟩
      case round =>
        clear HG HH1 HB1
        obtain ⟨j, hj, rfl, hg, hh, hb⟩ := hrel
        rename World => v2
        by_cases hlj : j < 7
        · have o2 : (j : Int) < 7 := by omega
          have p2 : (0 : Int) ≤ (j : Int) := by omega
          have c2 := row_cell (l := bsInts) hg j hlj
          obtain ⟨B0, B1⟩ := bs_bd ⟨j, hlj⟩
          obtain ⟨B, hB⟩ : ∃ B, bsInts.getD j 0 = B := ⟨_, rfl⟩
          simp only [hB] at c2 B0 B1
          clear hB
          have he1 : Has (v2.alloc (.cells #[.int .i64 A, .int .i64 B, .int .i64 (65536 - A), .int .i64 (-B)] 24)) v2.heap.size #[.int .i64 A, .int .i64 B, .int .i64 (65536 - A), .int .i64 (-B)] 24 := has_new rfl
          have hg1 := hg.alloc (.cells #[.int .i64 A, .int .i64 B, .int .i64 (65536 - A), .int .i64 (-B)] 24)
          have hh1 := hh.alloc (.cells #[.int .i64 A, .int .i64 B, .int .i64 (65536 - A), .int .i64 (-B)] 24)
          have hb1 := hb.alloc hb.size (.cells #[.int .i64 A, .int .i64 B, .int .i64 (65536 - A), .int .i64 (-B)] 24)
          have HE := Lib.hid he1
          have HG := Lib.hid hg1
          have HH := Lib.hid hh1
          have HB := Lib.hid hb1
          clear he1 hg1 hh1 hb1 hg hh hb
          go_wp2
          clear c2
          go_loopw [6] (fun i wq => ∃ x : Int, -2 ≤ x ∧ x ≤ 67 ∧ i = .int .i64 x ∧ Has wq v2.heap.size #[.int .i64 A, .int .i64 B, .int .i64 (65536 - A), .int .i64 (-B)] 24 ∧ Has wq v1.heap.size bsCells 2 ∧ Has wq w.heap.size asCells 2 ∧ Below w.heap.size w wq) (fun i _ => (67 - intOf i).toNat)
          case atStart => exact ⟨-2, by omega, by omega, rfl, HE.out, HG.out, HH.out, HB.out⟩
          case round =>
            clear HE HG HH HB
            obtain ⟨x, hx0, hx1, rfl, he, hg, hh, hb⟩ := hrel
            by_cases hlx : x ≤ 66
            · have c0 := he.cell 0 _ rfl
              have c1 := he.cell 1 _ rfl
              have c2 := he.cell 2 _ rfl
              have c3 := he.cell 3 _ rfl
              have HE := Lib.hid he
              have HG := Lib.hid hg
              have HH := Lib.hid hh
              have HB := Lib.hid hb
              clear he hg hh hb
              go_wp2_with fail
              refine (l4_same _ _ _ _ _ _).mono ?_
              rintro e w1 ⟨rfl, hq⟩
              have he1 := HE.out.below hq HE.out.lt
              have hg1 := HG.out.below hq HG.out.lt
              have hh1 := HH.out.below hq HH.out.lt
              have hb1 : Below w.heap.size w w1 := HB.out.trans (hq.mono HB.out.size)
              clear c0 c1 c2 c3 hq HE HG HH HB
              have c0 := he1.cell 0 _ rfl
              have c1 := he1.cell 1 _ rfl
              have c2 := he1.cell 2 _ rfl
              have c3 := he1.cell 3 _ rfl
              have HE := Lib.hid he1
              have HG := Lib.hid hg1
              have HH := Lib.hid hh1
              have HB := Lib.hid hb1
              clear he1 hg1 hh1 hb1
              go_wp2_with fail
              refine (l4_same _ _ _ _ _ _).mono ?_
              rintro e w2 ⟨rfl, hq⟩
              have he1 := HE.out.below hq HE.out.lt
              have hg1 := HG.out.below hq HG.out.lt
              have hh1 := HH.out.below hq HH.out.lt
              have hb1 : Below w.heap.size w w2 := HB.out.trans (hq.mono HB.out.size)
              clear c0 c1 c2 c3 hq HE HG HH HB
              have HE := Lib.hid he1
              have HG := Lib.hid hg1
              have HH := Lib.hid hh1
              have HB := Lib.hid hb1
              clear he1 hg1 hh1 hb1
              go_wp2
              go_roundw
              case rel => exact ⟨x + 1, by omega, by omega, by go_num, HE.out, HG.out, HH.out, HB.out⟩
              case measure => simp [intOf]; omega
            · have HG := Lib.hid hg
              have HH := Lib.hid hh
              have HB := Lib.hid hb
              clear he hg hh hb
              go_wp2
              go_roundw
              case rel => exact ⟨j + 1, by omega, by go_num, HG.out, HH.out, HB.out⟩
              case measure => simp [intOf]; omega
        · have HH := Lib.hid hh
          have HB := Lib.hid hb
          clear hg hh hb
          go_wp2
          go_roundw
          case rel => exact ⟨k + 1, by omega, by go_num, HH.out, HB.out⟩
          case measure => simp [intOf]; omega
    · have hg1 : Has (v1.alloc (.cells gsCells 2)) v1.heap.size gsCells 2 := has_new rfl
      have hb1 : Below w.heap.size w (v1.alloc (.cells gsCells 2)) := hb.alloc hb.size _
      have HG := Lib.hid hg1
      have HB := Lib.hid hb1
      clear hg1 hb1 hh hb
      go_wp2
      clear hlt hk
      go_loopw [8, 9, 10, 54] (fun _ _ _ i wq => ∃ k : Nat, k ≤ 11 ∧ i = .int .i64 k ∧ Has wq v1.heap.size gsCells 2 ∧ Below w.heap.size w wq) (fun _ _ _ i _ => 11 - (intOf i).toNat)
      case atStart => exact ⟨0, by omega, rfl, HG.out, HB.out⟩
      case round =>
        clear HG HB
        obtain ⟨k, hk, rfl, hg, hb⟩ := hrel
        have HG := Lib.hid hg
        have HB := Lib.hid hb
        clear hg hb
        by_cases hlt : k < 11
        · have o1 : (k : Int) < 11 := by omega
          go_wp2
          go_loopw [9, 10, 59] (fun _ _ i wq => ∃ j : Nat, j ≤ 11 ∧ i = .int .i64 j ∧ Has wq v1.heap.size gsCells 2 ∧ Below w.heap.size w wq) (fun _ _ i _ => 11 - (intOf i).toNat)
          case atStart => exact ⟨0, by omega, rfl, HG.out, HB.out⟩
          case round =>
            clear HG HB
            obtain ⟨j, hj, rfl, hg, hb⟩ := hrel
            have HG := Lib.hid hg
            have HB := Lib.hid hb
            clear hg hb
            by_cases hlj : j < 11
            · have o2 : (j : Int) < 11 := by omega
              go_wp2
              go_loopw [10, 64] (fun _ i wq => ∃ m : Nat, m ≤ 11 ∧ i = .int .i64 m ∧ Has wq v1.heap.size gsCells 2 ∧ Below w.heap.size w wq) (fun _ i _ => 11 - (intOf i).toNat)
              case atStart => exact ⟨0, by omega, rfl, HG.out, HB.out⟩
              case round =>
                clear HG HB
                obtain ⟨m, hm, rfl, hg, hb⟩ := hrel
                have HG := Lib.hid hg
                have HB := Lib.hid hb
                clear hg hb
                by_cases hlm : m < 11
                · have o3 : (m : Int) < 11 := by omega
                  have p1 : (0 : Int) ≤ (k : Int) := by omega
                  have p2 : (0 : Int) ≤ (j : Int) := by omega
                  have p3 : (0 : Int) ≤ (m : Int) := by omega
                  have c1 := row_cell (l := gsInts) HG.out k hlt
                  have c2 := row_cell (l := gsInts) HG.out j hlj
                  have c3 := row_cell (l := gsInts) HG.out m hlm
                  obtain ⟨x1, h1⟩ : ∃ x, gsInts.getD k 0 = x := ⟨_, rfl⟩
                  obtain ⟨x2, h2⟩ : ∃ x, gsInts.getD j 0 = x := ⟨_, rfl⟩
                  obtain ⟨x3, h3⟩ : ∃ x, gsInts.getD m 0 = x := ⟨_, rfl⟩
                  rw [h1] at c1
                  rw [h2] at c2
                  rw [h3] at c3
                  clear h1 h2 h3
                  go_wp2
                  go_quiet (first | (go_at_call 9; exact quiet1 (e_part _ _ _ _)) | (go_at_call 10; exact quiet1 (r5_part _ _ _ _)))
                  clear c1 c2 c3
                  go_wp2
                  go_roundw
                  case rel => exact ⟨m + 1, by omega, by go_num, HG.out.drewN _, below_drewN HB.out _⟩
                  case measure => simp [intOf]; omega
                · go_wp2
                  go_roundw
                  case rel => exact ⟨j + 1, by omega, by go_num, HG.out, HB.out⟩
                  case measure => simp [intOf]; omega
            · go_wp2
              go_roundw
              case rel => exact ⟨k + 1, by omega, by go_num, HG.out, HB.out⟩
              case measure => simp [intOf]; omega
        · go_wp2_with fail
          refine (known4 _).mono ?_
          rintro e w1 ⟨rfl, hq⟩
          have hb1 : Below w.heap.size w w1 := HB.out.trans (hq.mono HB.out.size)
          have HB1 := Lib.hid hb1
          clear hb1 hq HB HG
          go_wp2
          go_ret
          exact ⟨rfl, HB1.out⟩

end Go.Proofs.Ytkecgfelbcjonaa
