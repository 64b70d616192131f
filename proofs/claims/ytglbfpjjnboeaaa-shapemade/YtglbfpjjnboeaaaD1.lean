/- Lists of numbers (int64) in memory: 'Isl' (a slice that holds just these numbers). Contracts of dash.Right, dash.turn and of the reference's Dashes: for all such lists what the plain arithmetic says; of the memory nothing turns. -/
import Derived.Test.YtglbfpjjnboeaaaDMath
import Derived.Test.YtglbfpjjnboeaaaPB
namespace Go.Proofs.Ytglbfpjjnboeaaa
open Go Go.RowKit
open M

theorem and_quad (c : Int) : bits .and .i64 c 262143 = c % 262144 := by
  show IntKind.i64.wrap ((BitVec.ofInt 64 c &&& BitVec.ofInt 64 (262143 : Int)).toNat : Int) = _
  have e0 : (BitVec.ofInt 64 (262143 : Int)).toNat = 262143 := by decide
  have e1 : (BitVec.ofInt 64 c).toNat = (c % 18446744073709551616).toNat := by rw [BitVec.toNat_ofInt]; rfl
  have e2 : ∀ n : Nat, n &&& 262143 = n % 262144 := fun n => Nat.and_two_pow_sub_one_eq_mod n 18
  rw [BitVec.toNat_and, e0, e1, e2, IntKind.wrap_i64]
  omega
/-- The slice's value v holds just these numbers. -/
def Isl (w : World) (v : Value) (ds : List Int) : Prop := ∃ ao cap, v = .slice ao ds.length cap ∧ ds.length ≤ 8796093022208 ∧ (0 < ds.length → ∃ g o, ao = some ⟨g, o, none⟩ ∧ ∀ i, i < ds.length → w.cell? ⟨g, o + i, none⟩ = some (.int .i64 (nm ds i)))
theorem Isl.few {w : World} {v : Value} {ds : List Int} (h : Isl w v ds) : ds.length ≤ 8796093022208 := by
  obtain ⟨_, _, _, h, _⟩ := h
  exact h
theorem Isl.slice {w : World} {v : Value} {ds : List Int} (h : Isl w v ds) : ∃ ao cap, v = .slice ao ds.length cap := by
  obtain ⟨ao, cap, h, _⟩ := h
  exact ⟨ao, cap, h⟩
theorem Isl.blocks {w w' : World} {v : Value} {ds : List Int} (h : Isl w v ds) (hb : ∀ k, k < w.heap.size → v.ownBlock = some k → w'.heap[k]? = w.heap[k]?) : Isl w' v ds := by
  obtain ⟨ao, cap, rfl, hf, hr⟩ := h
  refine ⟨ao, cap, rfl, hf, fun h0 => ?_⟩
  obtain ⟨g, o, rfl, hr'⟩ := hr h0
  exact ⟨g, o, rfl, fun i hi => (World.cell?_of_block (a := ⟨g, _, _⟩) (hb g (World.block_lt_of_cell? w _ (hr' 0 h0)) rfl)).trans (hr' i hi)⟩
theorem Isl.below {w w' : World} {v : Value} {ds : List Int} (h : Isl w v ds) (hb : Below w.heap.size w w') : Isl w' v ds := h.blocks fun k hk _ => hb.block k hk
theorem Isl.alloc {w : World} {v : Value} {ds : List Int} (h : Isl w v ds) (o : Obj) : Isl (w.alloc o) v ds := h.blocks fun k hk _ => (MapKept.heap_alloc w o).2 k hk
theorem Isl.at {w : World} {ao : Option Addr} {N cap : Nat} {ds : List Int} (h : Isl w (.slice ao N cap) ds) (h0 : 0 < N) : ds.length = N ∧ ∃ g o, ao = some ⟨g, o, none⟩ ∧ ∀ i, i < N → w.cell? ⟨g, o + i, none⟩ = some (.int .i64 (nm ds i)) := by
  obtain ⟨ao', cap', e, hf, hr⟩ := h
  simp only [Value.slice.injEq] at e
  obtain ⟨rfl, rfl, rfl⟩ := e
  exact ⟨rfl, hr h0⟩
theorem isl_nil (w : World) (ao : Option Addr) (cap : Nat) : Isl w (.slice ao 0 cap) [] := ⟨ao, cap, rfl, by simp, fun h => by simp at h⟩
theorem isl_lit {w : World} {g n c : Nat} {ds : List Int} {cs : Array Value} {t : TypeId} (hn : ds.length = n) (hf : n ≤ 8796093022208) (h : Has w g cs t) (hc : cs.toList = ds.map (Value.int .i64)) : Isl w (.slice (some ⟨g, 0, none⟩) n c) ds := by
  subst hn
  refine ⟨_, c, rfl, hf, fun _ => ⟨g, 0, rfl, fun i hi => ?_⟩⟩
  rw [Nat.zero_add]
  refine h.cell i _ ?_
  have : cs.toList[i]? = some (.int .i64 (nm ds i)) := by rw [hc]; simp [nm, List.getD, hi]
  simpa using this

theorem d_right {v : Value} {ds : List Int} {w : World} (h : Isl w v ds) : Calls Try.prog 48 #[v] w fun e w' => e = .returned (.bool (okD ds)) ∧ w = w' := by
  have hf := h.few
  obtain ⟨ao, cap, rfl⟩ := h.slice
  by_cases h8 : 8 < ds.length
  · rw [okD_many h8]
    have o1 : (8 : Int) < ds.length := by omega
    clear h
    go_enter Try.func48, Try.ntmps48
    go_wp2
    go_ret
    exact ⟨rfl, rfl⟩
  · have o1 : ¬ (8 : Int) < ds.length := by omega
    obtain ⟨N, hN⟩ : ∃ N, ds.length = N := ⟨_, rfl⟩
    have HN := Lib.hid hN
    rw [hN] at h hf h8 o1 ⊢
    have HS := Lib.hid h
    clear h hN
    go_enter Try.func48, Try.ntmps48
    go_wp2
    go_loop [10] (fun i => ∃ n : Nat, n ≤ N ∧ i = .int .i64 n ∧ ∀ j, j < n → okN (nm ds j)) (fun i => N - (intOf i).toNat)
    case atStart => exact ⟨0, by omega, rfl, fun j hj => by omega⟩
    case round =>
      obtain ⟨n, hn, rfl, ha⟩ := hrel
      have HA := Lib.hid ha
      clear ha
      by_cases hlt : n < N
      · obtain ⟨_, g, o, e1, hc⟩ := HS.out.at (by omega)
        subst e1
        have c0 := hc n hlt
        have o3 : (n : Int) < N := by omega
        have o4 : n < N := hlt
        obtain ⟨d, hd⟩ : ∃ d, nm ds n = d := ⟨_, rfl⟩
        rw [hd] at c0
        have HD := Lib.hid hd
        clear hd hc
        by_cases h1 : d < 65536
        · have E : Hid (okD ds = false) := Lib.hid (okD_bad (i := n) (by rw [HN.out]; exact hlt) (by rw [HD.out]; intro e; have := e.1; omega))
          go_wp2
          go_ret
          exact ⟨by rw [E.out]; rfl, rfl⟩
        · by_cases h2 : 67108864 < d
          · have E : Hid (okD ds = false) := Lib.hid (okD_bad (i := n) (by rw [HN.out]; exact hlt) (by rw [HD.out]; intro e; have := e.2; omega))
            go_wp2
            go_ret
            exact ⟨by rw [E.out]; rfl, rfl⟩
          · have E : Hid (okN d) := Lib.hid ⟨by omega, by omega⟩
            go_wp2
            go_round
            case rel => exact ⟨n + 1, by omega, by go_num, fun j hj => by
              by_cases e : j = n
              · rw [e, HD.out]; exact E.out
              · exact HA.out j (by omega)⟩
            case measure => simp [intOf]; omega
      · obtain rfl : n = N := by omega
        have E : Hid (okD ds = true) := Lib.hid (okD_yes (by rw [HN.out]; omega) (fun i hi => HA.out i (by rw [HN.out] at hi; exact hi)))
        have o3 : ¬ (n : Int) < n := by omega
        go_wp2
        go_ret
        exact ⟨by rw [E.out]; rfl, rfl⟩

end Go.Proofs.Ytglbfpjjnboeaaa
