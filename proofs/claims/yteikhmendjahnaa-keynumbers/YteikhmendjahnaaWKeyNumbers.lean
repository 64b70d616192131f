/- The walk of mutoscopelaw5.KeyNumbers: it returns true; of the memory nothing that was there turns. No condition. -/
import Derived.Test.YteikhmendjahnaaS5
import Derived.Test.YteikhmendjahnaaL5
import Derived.Test.YteikhmendjahnaaKE5
namespace Go.Proofs.Yteikhmendjahnaa
open Go.RowKit
open M

def nines : List Ky := [⟨1073741824, 0, 0, 0, 0, 0, 0⟩, ⟨1073741825, 0, 0, 0, 0, 0, 0⟩, ⟨-1073741825, 0, 0, 0, 0, 0, 0⟩, ⟨0, 67108864, 0, 0, 0, 0, 0⟩, ⟨0, 67108865, 0, 0, 0, 0, 0⟩, ⟨0, -67108865, 0, 0, 0, 0, 0⟩, ⟨0, 0, 0, 1, 0, 0, 0⟩, ⟨0, 0, 2, -1, 0, 0, 0⟩, ⟨0, 0, 3, 0, 0, 0, 0⟩]
def ninesC : Array Value := #[.int .i64 1073741824, .int .i64 0, .int .i64 0, .int .i64 0, .int .i64 0, .int .i64 0, .int .i64 0,
  .int .i64 1073741825, .int .i64 0, .int .i64 0, .int .i64 0, .int .i64 0, .int .i64 0, .int .i64 0,
  .int .i64 (-1073741825), .int .i64 0, .int .i64 0, .int .i64 0, .int .i64 0, .int .i64 0, .int .i64 0,
  .int .i64 0, .int .i64 67108864, .int .i64 0, .int .i64 0, .int .i64 0, .int .i64 0, .int .i64 0,
  .int .i64 0, .int .i64 67108865, .int .i64 0, .int .i64 0, .int .i64 0, .int .i64 0, .int .i64 0,
  .int .i64 0, .int .i64 (-67108865), .int .i64 0, .int .i64 0, .int .i64 0, .int .i64 0, .int .i64 0,
  .int .i64 0, .int .i64 0, .int .i64 0, .int .i64 1, .int .i64 0, .int .i64 0, .int .i64 0,
  .int .i64 0, .int .i64 0, .int .i64 2, .int .i64 (-1), .int .i64 0, .int .i64 0, .int .i64 0,
  .int .i64 0, .int .i64 0, .int .i64 3, .int .i64 0, .int .i64 0, .int .i64 0, .int .i64 0]
theorem nines_c : ninesC.toList = kls nines := rfl
theorem made33 : (madeCells #[.int .i64 0, .int .i64 0, .int .i64 0, .int .i64 0, .int .i64 0, .int .i64 0, .int .i64 0] 231).toList = kls (List.replicate 33 default) := by kernel_rfl
theorem one_c (k : Ky) : (kCells k).toList = kls [k] := rfl
abbrev twoC (x k : Ky) : Array Value := #[.int .i64 x.t, .int .i64 x.v, .int .i64 x.h, .int .i64 x.a, .int .i64 x.b, .int .i64 x.c, .int .i64 x.d, .int .i64 k.t, .int .i64 k.v, .int .i64 k.h, .int .i64 k.a, .int .i64 k.b, .int .i64 k.c, .int .i64 k.d]
theorem two_c (x k : Ky) : (twoC x k).toList = kls [x, k] := rfl
theorem num_step {B : Nat} {w wr w2 : World} {v v' : Value} {rs : List Ky} {k : Ky} {o1 o2 : Obj} {n : Nat} (hl : rs.length = n) (hsz : B ≤ wr.heap.size) (hown : Own wr B v rs) (hb : Below B w wr)
    (hown' : w2.ownsRow B 26 7 v' (rs.length + 1) (kls rs ++ kl k)) (hg : ((wr.alloc o1).alloc o2).grownBy w2 v.ownBlock) :
    ∃ rs : List Ky, rs.length = n + 1 ∧ Own w2 B v' rs ∧ Below B w w2 := by
  refine ⟨rs ++ [k], by simp [hl], Own.snoc hown', ?_⟩
  exact ((hb.alloc hsz o1).alloc (by simp; omega) o2).grown hg (by simp; omega) (fun j hj => (World.ownsRow.lt hown j hj).1)

set_option maxHeartbeats 4000000 in
set_option maxRecDepth 100000 in
theorem keyNumbers_walk (w : World) :
    Calls Try.prog 3 #[] w fun r w' => r = .returned (.bool true) ∧ Below w.heap.size w w' := by
  obtain ⟨i0, hi, hz0, hz1, hz2⟩ := info_parts Try.infoKey
  obtain ⟨B, hB⟩ : ∃ B, w.heap.size = B := ⟨_, rfl⟩
  rw [hB]
  have HB0 := Lib.hid hB
  clear hB
  go_enter Try.func3, Try.ntmps3
  go_wp2
  go_loopw [1, 2, 3, 4, 5, 6] (fun n _ _ _ _ _ wr => ∃ N : Nat, N ≤ 6 ∧ n = .int .i64 N ∧ Below B w wr) (fun n _ _ _ _ _ _ => 6 - (intOf n).toNat)
  case atStart => exact ⟨0, by omega, rfl, Below.refl _ _⟩
  case round =>
    obtain ⟨N, hN, rfl, hb⟩ := hrel
    rename World => v1
    have HB := Lib.hid hb
    clear hb
    by_cases hlt : N < 6
    · have o1 : (N : Int) < 6 := by omega
      go_wp2
      go_loopw [2, 3, 4, 5, 6] (fun h _ _ _ _ wr => ∃ x : Int, -1 ≤ x ∧ x ≤ 5 ∧ h = .int .i64 x ∧ Below B w wr) (fun h _ _ _ _ _ => (5 - intOf h).toNat)
      case atStart => exact ⟨-1, by omega, by omega, rfl, HB.out⟩
      case round =>
        clear HB
        obtain ⟨h, h0, h1, rfl, hb⟩ := hrel
        rename World => v2
        have HB := Lib.hid hb
        clear hb
        by_cases hlh : h < 5
        · go_wp2
          go_loopw [3, 4, 5] (fun l i _ wr => ∃ m : Nat, m ≤ N ∧ i = .int .i64 m ∧ ∃ qs : List Ky, qs.length = m ∧ Own wr B l qs ∧ Below B w wr) (fun _ i _ _ => N - (intOf i).toNat)
          case atStart => exact ⟨0, by omega, rfl, [], rfl, Own.nil _ _, HB.out⟩
          case round =>
            clear HB
            obtain ⟨m, hm, rfl, qs, hq, hown, hb⟩ := hrel
            have hsz : B ≤ wr.heap.size := by have := hb.size; have := HB0.out; omega
            have HQ := Lib.hid hq
            have HO := Lib.hid hown
            have HB := Lib.hid hb
            clear hq hown hb
            by_cases hlm : m < N
            · have o2 : (m : Int) < N := by omega
              obtain ⟨M, hM, M0, M1⟩ : ∃ M : Int, (m : Int) * (m : Int) = M ∧ 0 ≤ M ∧ M ≤ 25 := by
                refine ⟨_, rfl, ?_⟩
                rcases (show m = 0 ∨ m = 1 ∨ m = 2 ∨ m = 3 ∨ m = 4 ∨ m = 5 by omega) with rfl | rfl | rfl | rfl | rfl | rfl <;> decide
              by_cases h2 : h = 2
              · subst h2
                go_wp2_with (at_builtin; refine wpList_append_near _ rfl _ _ 22 rfl B 26 i0 (.agg #[.int .i64 0, .int .i64 0, .int .i64 0, .int .i64 0, .int .i64 0, .int .i64 0, .int .i64 0]) 7 56 Try.underlying22 hi hz0 hz1 hz2 rfl (by decide) _ _ _ rfl ((HO.out.alloc _).alloc _) ⟨wr.heap.size + 1, 0, none⟩ 1 1 (kl ⟨(m : Int) * 5, M * 70000, 2, 21845, -65536, 32768, 131072⟩) rfl rfl (seven_cells (by simp)) (ints_one_kl _) ?c3 ?c4 ?c5 ?_)
                case c3 => have := HQ.out; unfold maxLen; omega
                case c4 => have := HQ.out; omega
                case c5 => simp; omega
                intro v' w2 hown' hg' _
                have R := Lib.hid (num_step HQ.out hsz HO.out HB.out hown' hg')
                clear hown' hg' HO HB HQ
                go_wp2
                go_roundw
                case rel => exact ⟨m + 1, by omega, by go_num, R.out⟩
                case measure => simp [intOf]; omega
              · go_wp2_with (at_builtin; refine wpList_append_near _ rfl _ _ 22 rfl B 26 i0 (.agg #[.int .i64 0, .int .i64 0, .int .i64 0, .int .i64 0, .int .i64 0, .int .i64 0, .int .i64 0]) 7 56 Try.underlying22 hi hz0 hz1 hz2 rfl (by decide) _ _ _ rfl ((HO.out.alloc _).alloc _) ⟨wr.heap.size + 1, 0, none⟩ 1 1 (kl ⟨(m : Int) * 5, M * 70000, h, 0, 0, 0, 0⟩) rfl rfl (seven_cells (by simp)) (ints_one_kl _) ?d3 ?d4 ?d5 ?_)
                case d3 => have := HQ.out; unfold maxLen; omega
                case d4 => have := HQ.out; omega
                case d5 => simp; omega
                intro v' w2 hown' hg' _
                have R := Lib.hid (num_step HQ.out hsz HO.out HB.out hown' hg')
                clear hown' hg' HO HB HQ
                go_wp2
                go_roundw
                case rel => exact ⟨m + 1, by omega, by go_num, R.out⟩
                case measure => simp [intOf]; omega
            · rename World => v3
              have hs : Sl v3 u3 qs := HO.out.sl (by have := HQ.out; omega)
              have HS := Lib.hid hs
              clear hs HO HQ
              go_wp2
              go_loopw [6] (fun t wr => ∃ x : Int, -3 ≤ x ∧ x ≤ 32 ∧ t = .int .i64 x ∧ Below v3.heap.size v3 wr) (fun t _ => (32 - intOf t).toNat)
              case atStart => exact ⟨-3, by omega, by omega, rfl, Below.refl _ _⟩
              case round =>
                obtain ⟨x, x0, x1, rfl, hb2⟩ := hrel
                have HB2 := Lib.hid hb2
                clear hb2
                by_cases hlx : x < 32
                · go_wp2_with fail
                  refine (l5_same (HS.out.below HB2.out) x 9).mono ?_
                  rintro e w4 ⟨rfl, hq4⟩
                  have HB4 := Lib.hid (HB2.out.trans (hq4.mono HB2.out.size))
                  clear hq4 HB2
                  go_wp2_with fail
                  refine (k_goes _ _ _ _ _ _ _).mono ?_
                  rintro e w5 ⟨rfl, hq5⟩
                  have HB5 := Lib.hid (HB4.out.trans (hq5.mono HB4.out.size))
                  clear hq5 HB4
                  go_wp2_with fail
                  refine (r5_goes _ _ _ _ _ _ _).mono ?_
                  rintro e w6 ⟨rfl, hq6⟩
                  have HB6 := Lib.hid (HB5.out.trans (hq6.mono HB5.out.size))
                  clear hq6 HB5
                  go_wp2
                  go_roundw
                  case rel => exact ⟨x + 1, by omega, by omega, by go_num, HB6.out⟩
                  case measure => simp [intOf]; omega
                · have R := Lib.hid (HB.out.trans (HB2.out.mono hsz))
                  clear HB2 HB
                  go_wp2
                  go_roundw
                  case rel => exact ⟨h + 1, by omega, by omega, by go_num, R.out⟩
                  case measure => simp [intOf]; omega
        · go_wp2
          go_roundw
          case rel => exact ⟨N + 1, by omega, by go_num, HB.out⟩
          case measure => simp [intOf]; omega
    · have o6 : (6 : Int) ≤ N := by omega
      have hh : Has (v1.alloc (.cells ninesC 26)) v1.heap.size ninesC 26 := has_new0
      have hb1 : Below B w (v1.alloc (.cells ninesC 26)) := HB.out.alloc (by have := HB.out.size; have := HB0.out; omega) _
      have HH := Lib.hid hh
      have HB1 := Lib.hid hb1
      clear hh hb1 HB
      go_wp2
      clear hlt hN o6
      go_loopw [8, 72] (fun _ i wr => ∃ m : Nat, m ≤ 9 ∧ i = .int .i64 m ∧ Has wr v1.heap.size ninesC 26 ∧ Below B w wr) (fun _ i _ => 9 - (intOf i).toNat)
      case atStart => exact ⟨0, by omega, rfl, HH.out, HB1.out⟩
      case round =>
        clear HH HB1
        obtain ⟨m, hm, rfl, hh, hb⟩ := hrel
        have hsz : B ≤ wr.heap.size := by have := hb.size; have := HB0.out; omega
        by_cases hlm : m < 9
        · have hr := row_has (ks := nines) (by decide) hh nines_c
          have c0 := hr.c0 m hlm
          have c1 := hr.c1 m hlm
          have c2 := hr.c2 m hlm
          have c3 := hr.c3 m hlm
          have c4 := hr.c4 m hlm
          have c5 := hr.c5 m hlm
          have c6 := hr.c6 m hlm
          rw [Nat.zero_add] at c0 c1 c2 c3 c4 c5 c6
          have o1 : (m : Int) < 9 := by omega
          generalize ky nines m = k at *
          have HS := Lib.hid (sl_lit (ks := [k]) 1 1 rfl (by decide) (by decide) (has_new (w := wr.alloc (.cells (kCells k) 26)) (g := wr.heap.size + 1) (cs := kCells k) (t := 26) (by simp)) (one_c k))
          have HK : Has ((wr.alloc (.cells (kCells k) 26)).alloc (.cells (kCells k) 26)) wr.heap.size (kCells k) 26 := has_new0.alloc _
          have HN := (hh.alloc (.cells (kCells k) 26)).alloc (.cells (kCells k) 26)
          have HB2 : Below B w ((wr.alloc (.cells (kCells k) 26)).alloc (.cells (kCells k) 26)) := (hb.alloc hsz _).alloc (by simp; omega) _
          have HK' := Lib.hid HK
          have HN' := Lib.hid HN
          have HB2' := Lib.hid HB2
          clear HK HN HB2 hh hb hr
          go_wp2_with fail
          refine (l5_same HS.out 0 0).mono ?_
          rintro e w4 ⟨rfl, hq4⟩
          have HK4 : Has w4 wr.heap.size (kCells k) 26 := HK'.out.below hq4 HK'.out.lt
          have d0 := HK4.cell 0 _ rfl
          have d1 := HK4.cell 1 _ rfl
          have d2 := HK4.cell 2 _ rfl
          have d3 := HK4.cell 3 _ rfl
          have d4 := HK4.cell 4 _ rfl
          have d5 := HK4.cell 5 _ rfl
          have d6 := HK4.cell 6 _ rfl
          have HN4 := Lib.hid ((HN'.out.below hq4 HN'.out.lt).alloc (.cells (twoC ⟨-1099511627776, 0, 0, 0, 0, 0, 0⟩ k) 26))
          have hb4 := HB2'.out.trans (hq4.mono (by simp; omega))
          have HB4 := Lib.hid (hb4.alloc (by have := hb4.size; have := HB0.out; omega) (.cells (twoC ⟨-1099511627776, 0, 0, 0, 0, 0, 0⟩ k) 26))
          have HS4 := Lib.hid (sl_lit (ks := [⟨-1099511627776, 0, 0, 0, 0, 0, 0⟩, k]) 2 2 rfl (by decide) (by decide) (has_new (w := w4) (g := w4.heap.size) (cs := twoC ⟨-1099511627776, 0, 0, 0, 0, 0, 0⟩ k) (t := 26) rfl) (two_c ⟨-1099511627776, 0, 0, 0, 0, 0, 0⟩ k))
          clear HK4 hb4 hq4 HN' HK' HB2' HS c0 c1 c2 c3 c4 c5 c6
          go_wp2_with fail
          refine (l5_same HS4.out 0 0).mono ?_
          rintro e w5 ⟨rfl, hq5⟩
          have HN5 := Lib.hid (HN4.out.below hq5 HN4.out.lt)
          have HB5 := Lib.hid (HB4.out.trans (hq5.mono (by have := HB4.out.size; have := HB0.out; omega)))
          clear hq5 HN4 HB4 HS4 d0 d1 d2 d3 d4 d5 d6
          go_wp2
          go_roundw
          case rel => exact ⟨m + 1, by omega, by go_num, HN5.out, HB5.out⟩
          case measure => simp [intOf]; omega
        · have HB := Lib.hid hb
          clear hb hh
          go_wp2_with (at_make; refine wpList_make_full _ rfl _ _ 22 rfl B 26 i0 (.agg #[.int .i64 0, .int .i64 0, .int .i64 0, .int .i64 0, .int .i64 0, .int .i64 0, .int .i64 0]) 7 Try.underlying22 hi hz0 hz1 _ _ _ _ 33 rfl rfl rfl rfl (by rw [hz2]; decide) (by decide) hsz ?_)
          intro w3 hown3 hg3
          rw [made33] at hown3
          have hs3 : Sl w3 (.slice (some ⟨wr.heap.size, 0, none⟩) 33 33) (List.replicate 33 default) := Own.sl (base := B) (ks := List.replicate 33 default) hown3 (by decide)
          have HS3 := Lib.hid hs3
          have HB3 := Lib.hid (HB.out.grown hg3 hsz (fun k hk => by cases hk))
          clear hown3 hg3 hs3 HB
          go_wp2_with fail
          refine (l5_same HS3.out 0 0).mono ?_
          rintro e w4 ⟨rfl, hq4⟩
          have HB4 := Lib.hid (HB3.out.trans (hq4.mono (by have := HB3.out.size; have := HB0.out; omega)))
          clear hq4 HB3 HS3
          go_wp2_with fail
          refine (known5 _).mono ?_
          rintro e w5 ⟨rfl, hq5⟩
          have HB5 := Lib.hid (HB4.out.trans (hq5.mono (by have := HB4.out.size; have := HB0.out; omega)))
          clear hq5 HB4
          go_wp2
          go_ret
          exact ⟨rfl, HB5.out⟩

end Go.Proofs.Yteikhmendjahnaa
