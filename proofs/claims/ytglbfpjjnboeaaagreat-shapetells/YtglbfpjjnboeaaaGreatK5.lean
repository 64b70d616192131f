/- Contracts of package key (Goes, Find, between, At, within, rightHow, rightKey, Right): for all keys what the plain arithmetic says; of the memory nothing that was there turns. A list of keys is 'Sl': a slice of no keys, or one whose keys lie in a row of cells, a thousand at most. -/
import Derived.Test.YtglbfpjjnboeaaaGreatK4
import Derived.Test.YtglbfpjjnboeaaaGreatKMath
import Derived.Test.YtglbfpjjnboeaaaGreatMidQ
import Derived.BigQuiet
namespace Go.Proofs.YtglbfpjjnboeaaaGreat
open Go.RowKit
open M

/-- A key's cells. -/
abbrev kCells (k : Ky) : Array Value := #[.int .i64 k.t, .int .i64 k.v, .int .i64 k.h, .int .i64 k.a, .int .i64 k.b, .int .i64 k.c, .int .i64 k.d]

/-- A row of keys lies in block g from cell o on. -/
structure Row (w : World) (g o : Nat) (ks : List Ky) : Prop where
  few : ks.length ≤ 8796093022208
  c0 : ∀ i, i < ks.length → w.cell? ⟨g, o + i * 7, none⟩ = some (.int .i64 (ky ks i).t)
  c1 : ∀ i, i < ks.length → w.cell? ⟨g, o + i * 7 + 1, none⟩ = some (.int .i64 (ky ks i).v)
  c2 : ∀ i, i < ks.length → w.cell? ⟨g, o + i * 7 + 2, none⟩ = some (.int .i64 (ky ks i).h)
  c3 : ∀ i, i < ks.length → w.cell? ⟨g, o + i * 7 + 3, none⟩ = some (.int .i64 (ky ks i).a)
  c4 : ∀ i, i < ks.length → w.cell? ⟨g, o + i * 7 + 4, none⟩ = some (.int .i64 (ky ks i).b)
  c5 : ∀ i, i < ks.length → w.cell? ⟨g, o + i * 7 + 5, none⟩ = some (.int .i64 (ky ks i).c)
  c6 : ∀ i, i < ks.length → w.cell? ⟨g, o + i * 7 + 6, none⟩ = some (.int .i64 (ky ks i).d)
theorem Row.below {w w' : World} {g o B : Nat} {ks : List Ky} (h : Row w g o ks) (hb : Below B w w') (hg : g < B) : Row w' g o ks :=
  ⟨h.few, fun i hi => (hb.cell (p := ⟨g, _, _⟩) hg).trans (h.c0 i hi), fun i hi => (hb.cell (p := ⟨g, _, _⟩) hg).trans (h.c1 i hi), fun i hi => (hb.cell (p := ⟨g, _, _⟩) hg).trans (h.c2 i hi), fun i hi => (hb.cell (p := ⟨g, _, _⟩) hg).trans (h.c3 i hi), fun i hi => (hb.cell (p := ⟨g, _, _⟩) hg).trans (h.c4 i hi), fun i hi => (hb.cell (p := ⟨g, _, _⟩) hg).trans (h.c5 i hi), fun i hi => (hb.cell (p := ⟨g, _, _⟩) hg).trans (h.c6 i hi)⟩
theorem Row.lt {w : World} {g o : Nat} {ks : List Ky} (h : Row w g o ks) (hn : 0 < ks.length) : g < w.heap.size := World.block_lt_of_cell? w _ (h.c0 0 hn)
/-- The slice's value v holds just these keys. -/
def Sl (w : World) (v : Value) (ks : List Ky) : Prop := (ks = [] ∧ ∃ ao cap, v = .slice ao 0 cap) ∨ (0 < ks.length ∧ ∃ g o cap, v = .slice (some ⟨g, o, none⟩) ks.length cap ∧ Row w g o ks)
theorem Sl.few {w : World} {v : Value} {ks : List Ky} (h : Sl w v ks) : ks.length ≤ 8796093022208 := by
  rcases h with ⟨rfl, _⟩ | ⟨_, _, _, _, _, hr⟩
  · simp
  · exact hr.few
theorem Sl.below {w w' : World} {v : Value} {ks : List Ky} (h : Sl w v ks) (hb : Below w.heap.size w w') : Sl w' v ks := by
  rcases h with h | ⟨h0, g, o, cap, hv, hr⟩
  · exact Or.inl h
  · exact Or.inr ⟨h0, g, o, cap, hv, hr.below hb (hr.lt h0)⟩

theorem k_goes (h a b c d p : Int) (w : World) :
    Calls Tryz.prog 97 #[.int .i64 h, .agg #[.int .i64 a, .int .i64 b, .int .i64 c, .int .i64 d], .int .i64 p] w fun e w' => e = .returned (.int .i64 (goes h a b c d p)) ∧ Below w.heap.size w w' := by
  by_cases h0 : h = 0
  · subst h0
    by_cases hp : 65536 ≤ p
    · rw [show goes 0 a b c d p = 65536 by simp [goes, hp]]
      go_enter Tryz.func97, Tryz.ntmps97
      go_wp2
      go_ret
      exact ⟨rfl, (Below.refl _ _).alloc (Nat.le_refl _) _⟩
    · rw [show goes 0 a b c d p = 0 by simp [goes, hp]]
      go_enter Tryz.func97, Tryz.ntmps97
      go_wp2
      go_ret
      exact ⟨rfl, (Below.refl _ _).alloc (Nat.le_refl _) _⟩
  · by_cases h1 : h = 1
    · subst h1
      rw [show goes 1 a b c d p = p by simp [goes]]
      go_enter Tryz.func97, Tryz.ntmps97
      go_wp2
      go_ret
      exact ⟨rfl, (Below.refl _ _).alloc (Nat.le_refl _) _⟩
    · by_cases h2 : h = 2
      · subst h2
        rw [show goes 2 a b c d p = curve a b c d p by simp [goes]]
        go_enter Tryz.func97, Tryz.ntmps97
        go_wp2_with fail
        refine (e_at _ _ _ _ _ _).mono ?_
        rintro e w1 ⟨rfl, hq⟩
        obtain ⟨_, HB⟩ := k4_keep has_new0 hq
        clear hq
        have HBB := Lib.hid HB
        clear HB
        go_wp2
        go_ret
        exact ⟨rfl, HBB.out⟩
      · rw [show goes h a b c d p = 0 by simp [goes, h0, h1, h2]]
        go_enter Tryz.func97, Tryz.ntmps97
        go_wp2
        go_ret
        exact ⟨rfl, (Below.refl _ _).alloc (Nat.le_refl _) _⟩

theorem k_find1 (g o cap : Nat) (ks : List Ky) (t : Int) (w : World) (hr : Row w g o ks) :
    Calls Tryz.prog 72 #[.slice (some ⟨g, o, none⟩) ks.length cap, .int .i64 t] w fun e w' => e = .returned (.int .i64 (find ks t)) ∧ w = w' := by
  have hf := hr.few
  have HR := Lib.hid hr
  clear hr
  go_enter Tryz.func72, Tryz.ntmps72
  go_wp2
  go_loop [4, 5] (fun _ i => ∃ n : Nat, n ≤ ks.length ∧ i = .int .i64 ((n : Int) - 1) ∧ find ks t = findN ks t n) (fun _ i => (intOf i + 1).toNat)
  case atStart => exact ⟨ks.length, by omega, rfl, rfl⟩
  case round =>
    obtain ⟨n, hn, rfl, he⟩ := hrel
    cases n with
    | zero =>
      rw [he]
      have e0 : findN ks t 0 = -1 := rfl
      rw [e0]
      go_wp2
      go_ret
      exact ⟨rfl, rfl⟩
    | succ n =>
      have c0 := HR.out.c0 n (by omega)
      have e1 : ((n + 1 : Nat) : Int) - 1 = (n : Int) := by omega
      rw [e1]
      by_cases hc : (ky ks n).t ≤ t
      · rw [findN_hit hc] at he
        rw [he]
        go_wp2
        go_ret
        exact ⟨rfl, rfl⟩
      · rw [findN_miss hc] at he
        have HE := Lib.hid he
        clear he
        go_wp2
        go_round
        case rel => exact ⟨n, by omega, rfl, HE.out⟩
        case measure => simp [intOf]
theorem k_find0 (ao : Option Addr) (cap : Nat) (t : Int) (w : World) :
    Calls Tryz.prog 72 #[.slice ao 0 cap, .int .i64 t] w fun e w' => e = .returned (.int .i64 (-1)) ∧ w = w' := by
  go_enter Tryz.func72, Tryz.ntmps72
  go_wp2
  go_loop [4, 5] (fun _ i => i = .int .i64 (-1)) (fun _ _ => 0)
  case atStart => rfl
  case round =>
    subst hrel
    go_wp2
    go_ret
    exact ⟨rfl, rfl⟩
theorem k_find {v : Value} {ks : List Ky} {w : World} (h : Sl w v ks) (t : Int) :
    Calls Tryz.prog 72 #[v, .int .i64 t] w fun e w' => e = .returned (.int .i64 (find ks t)) ∧ w = w' := by
  rcases h with ⟨rfl, ao, cap, rfl⟩ | ⟨_, g, o, cap, rfl, hr⟩
  · exact k_find0 ao cap t w
  · exact k_find1 g o cap ks t w hr

set_option maxHeartbeats 1000000 in
theorem k_between (x y : Ky) (t : Int) (w : World) :
    Calls Tryz.prog 73 #[.agg (kCells x), .agg (kCells y), .int .i64 t] w fun e w' => e = .returned (.int .i64 (tween x y t)) ∧ Below w.heap.size w w' := by
  unfold tween
  obtain ⟨t1, v1, h1, a1, b1, c1, d1⟩ := x
  obtain ⟨t2, v2, h2, a2, b2, c2, d2⟩ := y
  go_enter Tryz.func73, Tryz.ntmps73
  go_wp2_with fail
  obtain ⟨W, hW⟩ : ∃ W, (w.alloc (.cells (kCells ⟨t1, v1, h1, a1, b1, c1, d1⟩) 38)).alloc (.cells (kCells ⟨t2, v2, h2, a2, b2, c2, d2⟩) 38) = W := ⟨_, rfl⟩
  have H0 : Has W w.heap.size (kCells ⟨t1, v1, h1, a1, b1, c1, d1⟩) 38 := by rw [← hW]; exact (has_new rfl).alloc _
  have H1 : Has W (w.heap.size + 1) (kCells ⟨t2, v2, h2, a2, b2, c2, d2⟩) 38 := by rw [← hW]; exact has_new (by simp)
  have HB : Below w.heap.size w W := by rw [← hW]; exact ((Below.refl _ _).alloc (Nat.le_refl _) _).alloc (by simp) _
  rw [hW]
  have r0 := Later.read H0 0 _ rfl
  have r1 := Later.read H0 1 _ rfl
  have r2 := Later.read H0 2 _ rfl
  have r3 := Later.read H0 3 _ rfl
  have r4 := Later.read H0 4 _ rfl
  have r5 := Later.read H0 5 _ rfl
  have r6 := Later.read H0 6 _ rfl
  have s0 := Later.read H1 0 _ rfl
  have s1 := Later.read H1 1 _ rfl
  have HC := Lib.hid HB
  clear H0 H1 HB hW
  refine wp_region_class (C := fun w' => ∃ z : Later W, w' = z.to) (by kernel_rfl) (by kernel_rfl) ⟨⟨_, below_drew (Below.refl _ _)⟩, rfl⟩ ?_
  repeat (go_big_quiet_step (first | (go_at_call 98; exact Later.calls (below_of (e_part _ _ _ _))) | (go_at_call 97; exact Later.calls (k_goes _ _ _ _ _ _ _)) | (go_at_call 96; exact Later.calls (below_of (q_mid _ _ _ _)))))
  refine wpQuiet_nil ?_
  rintro _ ⟨z, rfl⟩
  go_wp2
  go_ret
  exact ⟨rfl, HC.out.trans (z.below.mono HC.out.size)⟩

end Go.Proofs.YtglbfpjjnboeaaaGreat
