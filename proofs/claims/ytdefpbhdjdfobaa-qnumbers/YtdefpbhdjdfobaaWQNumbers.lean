/- The walk of mutoscopelaw1.QNumbers: it returns true; nothing that was in memory turns. No condition. -/
import Derived.Test.YtdefpbhdjdfobaaN
import Derived.Test.YtdefpbhdjdfobaaH
import Derived.Deep.QuietTactic
import Derived.BigQuiet
namespace Go.Proofs.Ytdefpbhdjdfobaa
open Go.RowKit
open M

theorem Try.info64 : (Try.prog.info? 2).map (fun i => (i.zero, i.size, i.bytes)) = some (some (.int .i64 0), 1, 8) := by kernel_rfl

def litCells : List Int := [0, 1, 2, 3, 32767, 32768, 65535, 65536, 65537, 196608, 67108864, 536870911, 536870912, 536870913, 1073741825, 1099511627775, 1099511627776, 1099511627777, 4611686018427387903, 9223372036854775807]
theorem lit_cell (w : World) (k : Nat) (hk : k < 20) : (w.alloc (.cells #[.int .i64 0, .int .i64 1, .int .i64 2, .int .i64 3, .int .i64 32767, .int .i64 32768, .int .i64 65535, .int .i64 65536, .int .i64 65537, .int .i64 196608, .int .i64 67108864, .int .i64 536870911, .int .i64 536870912, .int .i64 536870913, .int .i64 1073741825, .int .i64 1099511627775, .int .i64 1099511627776, .int .i64 1099511627777, .int .i64 4611686018427387903, .int .i64 9223372036854775807] 2)).cell? ⟨w.heap.size, k, none⟩ = some (.int .i64 (litCells.getD k 0)) := by
  show (w.alloc (.cells (litCells.map (Value.int .i64)).toArray 2)).cell? ⟨w.heap.size, k, none⟩ = _
  have hl : k < litCells.length := hk
  rw [World.cell?_alloc_at _ _ _ _ rfl, List.getElem?_toArray, List.getElem?_map, List.getElem?_eq_getElem hl]
  simp [List.getD, List.getElem?_eq_getElem hl]

theorem two_cells {w : World} {a b : Value} {t : TypeId} : ∀ j u, [a, b][j]? = some u → (w.alloc (.cells #[a, b] t)).cell? ((⟨w.heap.size, 0, none⟩ : Addr).add j) = some u := by
  intro j u hj
  match j, hj with
  | 0, hj => simp at hj; subst hj; simp [Addr.add]
  | 1, hj => simp at hj; subst hj; simp [Addr.add]
theorem one_cell {w : World} {a : Value} {t : TypeId} : ∀ j u, [a][j]? = some u → (w.alloc (.cells #[a] t)).cell? ((⟨w.heap.size, 0, none⟩ : Addr).add j) = some u := by
  intro j u hj
  match j, hj with
  | 0, hj => simp at hj; subst hj; simp [Addr.add]
theorem ints_one (l : List Int) : ∀ u ∈ l.map (Value.int .i64), u.oneCell' = true := by
  intro u hu
  obtain ⟨n, _, rfl⟩ := List.mem_map.1 hu
  rfl
theorem rel_step {B k : Nat} {w1 wr w2 : World} {v v' : Value} {zs : List Int} {x y : Int} {o : Obj} (hz : zs.length = 2 * k) (hB : B + 1 ≤ wr.heap.size)
    (hown : wr.ownsRow (B + 1) 2 1 v (2 * k) (zs.map (Value.int .i64))) (hb : Below (B + 1) w1 wr)
    (hown' : w2.ownsRow (B + 1) 2 1 v' (2 * k + 2) (zs.map (Value.int .i64) ++ [.int .i64 x, .int .i64 y])) (hg : (wr.alloc o).grownBy w2 v.ownBlock) :
    ∃ ys : List Int, ys.length = 2 * (k + 1) ∧ w2.ownsRow (B + 1) 2 1 v' (2 * (k + 1)) (ys.map (Value.int .i64)) ∧ Below (B + 1) w1 w2 := by
  refine ⟨zs ++ [x, y], by simp; omega, by rw [show 2 * (k + 1) = 2 * k + 2 by omega]; simpa using hown', (hb.alloc (by omega) o).grown hg (by simp; omega) (fun j hj => by have := (hown.lt j hj).1; omega)⟩

def Edges (w : World) (e : Ending) (w' : World) : Prop := ∃ (g cap : Nat) (zs : List Int), zs.length = 41 ∧ e = .returned (.slice (some ⟨g, 0, none⟩) 41 cap) ∧ (∀ j, j < 41 → w'.cell? ⟨g, j, none⟩ = some (.int .i64 (zs.getD j 0))) ∧ Below w.heap.size w w'
theorem ret_edges {w W1 wr w2 : World} {v v' : Value} {zs : List Int} {x : Int} {o : Obj} {B : Nat} (hB : w.heap.size = B) (hz : zs.length = 40) (hb1 : Below B w W1) (hb : Below (B + 1) W1 wr) (hsz : B + 1 ≤ wr.heap.size)
    (hown : wr.ownsRow (B + 1) 2 1 v 40 (zs.map (Value.int .i64))) (hown' : w2.ownsRow (B + 1) 2 1 v' 41 (zs.map (Value.int .i64) ++ [.int .i64 x])) (hg : (wr.alloc o).grownBy w2 v.ownBlock) :
    Edges w (.returned v') w2 := by
  have hb2 : Below (B + 1) W1 w2 := (hb.alloc (by omega) o).grown hg (by simp; omega) (fun j hj => by have := (hown.lt j hj).1; omega)
  have hown2 : w2.ownsRow (B + 1) 2 1 v' 41 ((zs ++ [x]).map (Value.int .i64)) := by simpa using hown'
  obtain ⟨g, cap, hv⟩ : ∃ g cap, v' = .slice (some ⟨g, 0, none⟩) 41 cap := by
    rcases hown2.2 with ⟨_, h⟩ | ⟨g, cap, _, h, _⟩
    · exact absurd h (by decide)
    · exact ⟨g, cap, h⟩
  subst hv
  refine ⟨g, cap, zs ++ [x], by simp [hz], rfl, fun j hj => ?_, ?_⟩
  · have hl : j < (zs ++ [x]).length := by simp [hz]; omega
    rw [hown2.cellAt j (by omega), List.getElem?_map, List.getElem?_eq_getElem hl]
    simp [List.getD, List.getElem?_eq_getElem hl]
  · rw [hB]; exact hb1.trans (hb2.mono (by omega))

set_option maxHeartbeats 1000000 in
set_option maxRecDepth 100000 in
theorem edges (w : World) : Calls Try.prog 9 #[] w (Edges w) := by
  obtain ⟨i0, hi, hz0, hz1, hz2⟩ := info_parts Try.info64
  have HL := Lib.hid (lit_cell w)
  go_enter Try.func9, Try.ntmps9
  go_wp2
  obtain ⟨W1, hW1⟩ : ∃ W1, w.alloc (.cells #[.int .i64 0, .int .i64 1, .int .i64 2, .int .i64 3, .int .i64 32767, .int .i64 32768, .int .i64 65535, .int .i64 65536, .int .i64 65537, .int .i64 196608, .int .i64 67108864, .int .i64 536870911, .int .i64 536870912, .int .i64 536870913, .int .i64 1073741825, .int .i64 1099511627775, .int .i64 1099511627776, .int .i64 1099511627777, .int .i64 4611686018427387903, .int .i64 9223372036854775807] 2) = W1 := ⟨_, rfl⟩
  have hs : W1.heap.size = w.heap.size + 1 := by rw [← hW1]; simp
  have hbw : Below w.heap.size w W1 := by rw [← hW1]; exact (Below.refl _ _).alloc (Nat.le_refl _) _
  rw [hW1] at HL ⊢
  have HS := Lib.hid hs
  have HBW := Lib.hid hbw
  clear hs hbw hW1
  obtain ⟨B, hB⟩ : ∃ B, w.heap.size = B := ⟨_, rfl⟩
  rw [hB] at HL HS HBW ⊢
  have HB := Lib.hid hB
  clear hB
  go_loopw [1, 6] (fun v i wr => ∃ k : Nat, k ≤ 20 ∧ i = .int .i64 k ∧ ∃ zs : List Int, zs.length = 2 * k ∧ wr.ownsRow (B + 1) 2 1 v (2 * k) (zs.map (Value.int .i64)) ∧ Below (B + 1) W1 wr) (fun _ i _ => 20 - (intOf i).toNat)
  case atStart => exact ⟨0, by omega, rfl, [], rfl, World.ownsRow_nil _ _ _ _, Below.refl _ _⟩
  case round =>
    obtain ⟨k, hk, rfl, zs, hz, hown, hb⟩ := hrel
    have HZ := Lib.hid hz
    clear hz
    have hsz : B + 1 ≤ wr.heap.size := by have := hb.size; have := HS.out; omega
    have HBe := Lib.hid hb
    clear hb
    by_cases hlt : k < 20
    · have hc : wr.cell? ⟨B, k, none⟩ = some (.int .i64 (litCells.getD k 0)) := (HBe.out.cell (by show B < B + 1; omega)).trans (HL.out k hlt)
      obtain ⟨x, hx⟩ : ∃ x, litCells.getD k 0 = x := ⟨_, rfl⟩
      rw [hx] at hc
      clear hx
      go_wp2_with (at_builtin; refine wpList_append_own _ rfl _ _ 22 rfl (B + 1) 2 i0 (.int .i64 0) 1 8 Try.underlying22 hi hz0 hz1 hz2 rfl (by decide) _ _ _ rfl (hown.alloc _) ⟨wr.heap.size, 0, none⟩ 2 2 [.int .i64 x, .int .i64 (wrap64 (-x))] rfl rfl two_cells ?c2 ?c3 ?c4 ?c5 ?_)
      case c2 => exact ints_one [x, wrap64 (-x)]
      case c3 => unfold maxLen; omega
      case c4 => omega
      case c5 => simp; omega
      intro v' w2 hown' hg _
      have R := Lib.hid (rel_step HZ.out hsz hown HBe.out hown' hg)
      clear hown' hg hown hc
      go_wp2
      go_roundw
      case rel =>
        obtain ⟨ys, h1, h2, h3⟩ := R.out
        exact ⟨k + 1, by omega, by go_num, ys, h1, h2, h3⟩
      case measure => simp [intOf]; omega
    · obtain rfl : k = 20 := by omega
      go_wp2_with (at_builtin; refine wpList_append_own _ rfl _ _ 22 rfl (B + 1) 2 i0 (.int .i64 0) 1 8 Try.underlying22 hi hz0 hz1 hz2 rfl (by decide) _ _ _ rfl (hown.alloc _) ⟨wr.heap.size, 0, none⟩ 1 1 [.int .i64 (-9223372036854775808)] rfl rfl one_cell ?d2 ?d3 ?d4 ?d5 ?_)
      case d2 => exact ints_one [-9223372036854775808]
      case d3 => unfold maxLen; omega
      case d4 => omega
      case d5 => simp; omega
      intro v' w2 hown' hg _
      have R := Lib.hid (ret_edges HB.out HZ.out HBW.out HBe.out hsz hown hown' hg)
      clear hown' hg hown
      go_wp2
      go_ret
      exact R.out

def Ahead (w wr : World) : Prop := ∃ n : Nat, wr = w.drewN n
theorem Ahead.more {w wr : World} (h : Ahead w wr) (m : Nat) : Ahead w (wr.drewN m) := by
  obtain ⟨n, rfl⟩ := h
  exact ⟨n + m, World.drewN_drewN _ _ _⟩
theorem Ahead.cell {w wr : World} (h : Ahead w wr) {a : Addr} {v : Value} (hc : w.cell? a = some v) : wr.cell? a = some v := by
  obtain ⟨n, rfl⟩ := h
  exact hc
theorem Ahead.below {B : Nat} {w w1 wr : World} (h : Ahead w1 wr) (hb : Below B w w1) : Below B w wr := by
  obtain ⟨n, rfl⟩ := h
  exact below_drewN hb n
theorem quietly {P : Program} {f : FuncId} {args : Array Value} {w : World} {n : Nat} {v : Value} (h : Calls P f args (w.drewN n) (Drawn v (w.drewN n))) :
    Calls P f args (w.drewN n) fun e w'' => e = .returned v ∧ ∃ m, w'' = w.drewN m := Calls.quiet_of h

set_option maxHeartbeats 1000000 in
theorem qNumbers_walk (w : World) :
    Calls Try.prog 3 #[] w fun e w' => e = .returned (.bool true) ∧ Below w.heap.size w w' := by
  go_enter Try.func3, Try.ntmps3
  go_wp2_with fail
  refine (edges _).mono ?_
  rintro e w1 ⟨g, cap, zs, hz, rfl, hc, hb⟩
  have HC := Lib.hid hc
  have HB := Lib.hid hb
  clear hc hb hz
  go_wp2
  go_loopw [2, 3, 7] (fun _ _ i wr => ∃ k : Nat, k ≤ 41 ∧ i = .int .i64 k ∧ Ahead w1 wr) (fun _ _ i _ => 41 - (intOf i).toNat)
  case atStart => exact ⟨0, by omega, rfl, 0, rfl⟩
  case round =>
    obtain ⟨k, hk, rfl, ha⟩ := hrel
    have HA := Lib.hid ha
    clear ha
    by_cases hlt : k < 41
    · go_wp2
      go_loopw [3, 12] (fun _ i wr => ∃ j : Nat, j ≤ 41 ∧ i = .int .i64 j ∧ Ahead w1 wr) (fun _ i _ => 41 - (intOf i).toNat)
      case atStart => exact ⟨0, by omega, rfl, HA.out⟩
      case round =>
        clear HA
        obtain ⟨j, hj, rfl, ha⟩ := hrel
        have HA := Lib.hid ha
        clear ha
        by_cases hlj : j < 41
        · have c1 := HA.out.cell (HC.out k hlt)
          have c2 := HA.out.cell (HC.out j hlj)
          obtain ⟨m, hm, em⟩ : ∃ m : Nat, m < 41 ∧ ((k : Int) * 7 + j).tmod 41 = (m : Int) := ⟨(k * 7 + j) % 41, by omega, by rw [Int.tmod_eq_emod_of_nonneg (by omega)]; omega⟩
          have c3 := HA.out.cell (HC.out m hm)
          have hm1 : (m : Int) < 41 := by omega
          have hm0 : (0 : Int) ≤ (m : Int) := by omega
          obtain ⟨x1, h1⟩ : ∃ x, zs.getD k 0 = x := ⟨_, rfl⟩
          obtain ⟨x2, h2⟩ : ∃ x, zs.getD j 0 = x := ⟨_, rfl⟩
          obtain ⟨x3, h3⟩ : ∃ x, zs.getD m 0 = x := ⟨_, rfl⟩
          rw [h1] at c1
          rw [h2] at c2
          rw [h3] at c3
          clear h1 h2 h3
          have e1 : IntKind.i64.wrap ((k : Int) * 7) = (k : Int) * 7 := IntWalk.i64_in _ (by omega)
          have e2 : IntKind.i64.wrap ((k : Int) * 7 + j) = (k : Int) * 7 + j := IntWalk.i64_in _ (by omega)
          go_wp2
          go_quiet ((go_at_call 10; exact quietly (same _ _ _ _)))
          clear e1 e2 em c1 c2 c3 hm1 hm0
          go_wp2
          go_roundw
          case rel => exact ⟨j + 1, by omega, by go_num, HA.out.more _⟩
          case measure => simp [intOf]; omega
        · go_wp2
          go_roundw
          case rel => exact ⟨k + 1, by omega, by go_num, HA.out⟩
          case measure => simp [intOf]; omega
    · go_wp2_with (go_at_call 11; refine (known _).mono ?_; rintro e w' ⟨rfl, n, rfl⟩)
      go_ret
      exact ⟨rfl, (HA.out.more _).below HB.out⟩

end Go.Proofs.Ytdefpbhdjdfobaa
