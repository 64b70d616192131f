/- Keys of paths in memory: 'Kl' (a slice that holds just these keys, a hundred at most, each with its places); contracts of path.bareKey, .bareKeys, .find, .share: for all keys what the plain arithmetic says; of the memory nothing that was there turns. -/
import Derived.Test.YtglbfpjjnboeaaaGreatPM
import Derived.Test.YtglbfpjjnboeaaaGreatKR5
import Derived.Test.YtglbfpjjnboeaaaGreatKE5
import Derived.Deep.RegionHeld3
import Derived.Deep.RegionWith
namespace Go.Proofs.YtglbfpjjnboeaaaGreat
open Go Go.RowKit
open M

/-- A key of a path: tick, closed or not, the list's value and its places, how, and the four numbers of its ease. -/
structure Pk where
  t : Int
  cl : Bool
  v : Value
  ps : List Pt
  h : Int
  a : Int
  b : Int
  c : Int
  d : Int
instance : Inhabited Pk := ⟨⟨0, false, .slice none 0 0, [], 0, 0, 0, 0, 0⟩⟩
def pk (ks : List Pk) (i : Nat) : Pk := ks.getD i default
/-- The key without its path, of the number x. -/
def barev (k : Pk) (x : Int) : Ky := ⟨k.t, x, k.h, k.a, k.b, k.c, k.d⟩
def barep (ks : List Pk) : List Ky := ks.map (barev · 0)
theorem barep_length (ks : List Pk) : (barep ks).length = ks.length := by simp [barep]
theorem ky_barep {ks : List Pk} {i : Nat} (hi : i < ks.length) : ky (barep ks) i = barev (pk ks i) 0 := by
  unfold ky pk barep
  simp [List.getD, hi]
theorem pk_cons (k : Pk) (ks : List Pk) (i : Nat) : pk (k :: ks) (i + 1) = pk ks i := by simp [pk]
theorem pk_zero (k : Pk) (ks : List Pk) : pk (k :: ks) 0 = k := by simp [pk]
theorem pk_left {ks : List Pk} {k : Pk} {i : Nat} (h : i < ks.length) : pk (ks ++ [k]) i = pk ks i := by
  unfold pk; simp [List.getD, List.getElem?_append_left h]
theorem pk_last (ks : List Pk) (k : Pk) : pk (ks ++ [k]) ks.length = k := by unfold pk; simp [List.getD]
abbrev pkCells (k : Pk) : Array Value := #[.int .i64 k.t, .bool k.cl, k.v, .int .i64 k.h, .int .i64 k.a, .int .i64 k.b, .int .i64 k.c, .int .i64 k.d]

structure Krow (w : World) (g o : Nat) (ks : List Pk) : Prop where
  few : ks.length ≤ 100
  sl : ∀ i, i < ks.length → Psl w (pk ks i).v (pk ks i).ps
  c0 : ∀ i, i < ks.length → w.cell? ⟨g, o + i * 8, none⟩ = some (.int .i64 (pk ks i).t)
  c1 : ∀ i, i < ks.length → w.cell? ⟨g, o + i * 8 + 1, none⟩ = some (.bool (pk ks i).cl)
  c2 : ∀ i, i < ks.length → w.cell? ⟨g, o + i * 8 + 2, none⟩ = some (pk ks i).v
  c3 : ∀ i, i < ks.length → w.cell? ⟨g, o + i * 8 + 3, none⟩ = some (.int .i64 (pk ks i).h)
  c4 : ∀ i, i < ks.length → w.cell? ⟨g, o + i * 8 + 4, none⟩ = some (.int .i64 (pk ks i).a)
  c5 : ∀ i, i < ks.length → w.cell? ⟨g, o + i * 8 + 5, none⟩ = some (.int .i64 (pk ks i).b)
  c6 : ∀ i, i < ks.length → w.cell? ⟨g, o + i * 8 + 6, none⟩ = some (.int .i64 (pk ks i).c)
  c7 : ∀ i, i < ks.length → w.cell? ⟨g, o + i * 8 + 7, none⟩ = some (.int .i64 (pk ks i).d)
theorem Krow.lt {w : World} {g o : Nat} {ks : List Pk} (h : Krow w g o ks) (hn : 0 < ks.length) : g < w.heap.size := World.block_lt_of_cell? w _ (h.c0 0 hn)
theorem Krow.below {w w' : World} {g o B : Nat} {ks : List Pk} (h : Krow w g o ks) (hb : Below B w w') (hg : g < B) (hB : w.heap.size ≤ B) : Krow w' g o ks :=
  ⟨h.few, fun i hi => (h.sl i hi).below hb hB, fun i hi => (hb.cell (p := ⟨g, _, _⟩) hg).trans (h.c0 i hi), fun i hi => (hb.cell (p := ⟨g, _, _⟩) hg).trans (h.c1 i hi), fun i hi => (hb.cell (p := ⟨g, _, _⟩) hg).trans (h.c2 i hi), fun i hi => (hb.cell (p := ⟨g, _, _⟩) hg).trans (h.c3 i hi), fun i hi => (hb.cell (p := ⟨g, _, _⟩) hg).trans (h.c4 i hi), fun i hi => (hb.cell (p := ⟨g, _, _⟩) hg).trans (h.c5 i hi), fun i hi => (hb.cell (p := ⟨g, _, _⟩) hg).trans (h.c6 i hi), fun i hi => (hb.cell (p := ⟨g, _, _⟩) hg).trans (h.c7 i hi)⟩
/-- The slice's value v holds just these keys. -/
def Kl (w : World) (v : Value) (ks : List Pk) : Prop := ∃ ao cap, v = .slice ao ks.length cap ∧ ks.length ≤ 100 ∧ (0 < ks.length → ∃ g o, ao = some ⟨g, o, none⟩ ∧ Krow w g o ks)
theorem Kl.below {w w' : World} {v : Value} {ks : List Pk} (h : Kl w v ks) (hb : Below w.heap.size w w') : Kl w' v ks := by
  obtain ⟨ao, cap, rfl, hf, hr⟩ := h
  refine ⟨ao, cap, rfl, hf, fun h0 => ?_⟩
  obtain ⟨g, o, e, hr'⟩ := hr h0
  exact ⟨g, o, e, hr'.below hb (hr'.lt h0) (Nat.le_refl _)⟩
theorem Kl.row {w : World} {ao : Option Addr} {N cap : Nat} {ks : List Pk} (h : Kl w (.slice ao N cap) ks) (hn : 0 < N) : ∃ g o, ao = some ⟨g, o, none⟩ ∧ Krow w g o ks ∧ ks.length = N := by
  obtain ⟨ao', cap', hv, _, hr⟩ := h
  simp at hv
  obtain ⟨rfl, hl, rfl⟩ := hv
  obtain ⟨g, o, e, hr⟩ := hr (by omega)
  exact ⟨g, o, e, hr, hl.symm⟩

theorem p_bareKey (k : Pk) (x : Int) (w : World) (hv : ∃ ao n cap, k.v = .slice ao n cap) :
    Calls Tryz.prog 100 #[.agg (pkCells k), .int .i64 x] w fun e w' => e = .returned (.agg (kCells (barev k x))) ∧ Below w.heap.size w w' := by
  obtain ⟨t, cl, v, ps, h, a, b, c, d⟩ := k
  obtain ⟨ao, n, cap, hv⟩ := hv
  simp only at hv
  subst hv
  go_enter Tryz.func100, Tryz.ntmps100
  go_wp2
  refine bodyPost_ret (v := .agg (kCells ⟨t, x, h, a, b, c, d⟩)) (by simp [results, Tryz.results100, go_sem]) rfl ⟨rfl, ?_⟩
  exact ((Below.refl _ _).alloc (Nat.le_refl _) _).alloc (by simp) _
theorem Psl.shape {w : World} {v : Value} {ps : List Pt} (h : Psl w v ps) : ∃ ao n cap, v = .slice ao n cap := by
  obtain ⟨ao, cap, hv, _⟩ := h
  exact ⟨_, _, _, hv⟩

set_option maxHeartbeats 1000000 in
theorem p_find {v : Value} {ks : List Pk} {w : World} (h : Kl w v ks) (t : Int) :
    Calls Tryz.prog 74 #[v, .int .i64 t] w fun e w' => e = .returned (.int .i64 (find (barep ks) t)) ∧ w = w' := by
  obtain ⟨ao, cap, rfl, hf, hr⟩ := h
  obtain ⟨N, hN⟩ : ∃ N, ks.length = N := ⟨_, rfl⟩
  rw [hN] at hf hr ⊢
  have HR := Lib.hid hr
  have HN := Lib.hid hN
  clear hr hN
  go_enter Tryz.func74, Tryz.ntmps74
  go_wp2
  go_loop [4, 5] (fun _ i => ∃ n : Nat, n ≤ N ∧ i = .int .i64 ((n : Int) - 1) ∧ find (barep ks) t = findN (barep ks) t n) (fun _ i => (intOf i + 1).toNat)
  case atStart => exact ⟨N, by omega, rfl, by unfold find; rw [barep_length, HN.out]⟩
  case round =>
    obtain ⟨n, hn, rfl, he⟩ := hrel
    cases n with
    | zero =>
      have HE := Lib.hid he
      clear he
      go_wp2
      go_ret
      exact ⟨by rw [HE.out]; rfl, rfl⟩
    | succ n =>
      obtain ⟨g, o, rfl, r⟩ := HR.out (by omega)
      have c0 := r.c0 n (by have := HN.out; omega)
      have e1 : ((n + 1 : Nat) : Int) - 1 = (n : Int) := by omega
      rw [e1]
      have hk := ky_barep (ks := ks) (i := n) (by have := HN.out; omega)
      clear r
      by_cases hc : (pk ks n).t ≤ t
      · rw [findN_hit (by rw [hk]; exact hc)] at he
        have HE := Lib.hid he
        clear he hk
        go_wp2
        go_ret
        exact ⟨by rw [HE.out]; rfl, rfl⟩
      · rw [findN_miss (by rw [hk]; exact hc)] at he
        have HE := Lib.hid he
        clear he hk
        go_wp2
        go_round
        case rel => exact ⟨n, by omega, rfl, HE.out⟩
        case measure => simp [intOf]

end Go.Proofs.YtglbfpjjnboeaaaGreat
