/- Contracts of hue.bareKeys, .Right: for all keys of colours what the plain arithmetic says; of the memory nothing that was there turns. -/
import Derived.Test.YtglbfpjjnboeaaaHK
import Derived.Test.YtglbfpjjnboeaaaKR5
import Derived.Test.YtglbfpjjnboeaaaKE5
import Derived.Test.YtglbfpjjnboeaaaMKK
namespace Go.Proofs.Ytglbfpjjnboeaaa
open Go.RowKit
open M

/-- The keys without their colours, of the call's own. -/
def Bared (w : World) (ks : List Ck) (e : Ending) (w' : World) : Prop := ∃ v, e = .returned v ∧ Own w' w.heap.size v (bares ks) ∧ Below w.heap.size w w'
theorem bare_put {w wr : World} {B g cap N n : Nat} {ks : List Ck} {qs : List Ky} {k : Ck} {o : Obj} (hk : ck ks n = k) (hsz : B ≤ wr.heap.size) (hq : qs.length = N) (hn : n < N) (hst : ∀ j, j < n → ky qs j = bare (ck ks j)) (hown : Own wr B (.slice (some ⟨g, 0, none⟩) N cap) qs) (hb : Below B w wr) :
    ∃ qs : List Ky, qs.length = N ∧ (∀ j, j < n + 1 → ky qs j = bare (ck ks j)) ∧
      Own ((((((((wr.alloc o).setCell ⟨g, n * 7, none⟩ (.int .i64 k.t)).setCell ⟨g, n * 7 + 1, none⟩ (.int .i64 0)).setCell ⟨g, n * 7 + 2, none⟩ (.int .i64 k.h)).setCell ⟨g, n * 7 + 3, none⟩ (.int .i64 k.a)).setCell ⟨g, n * 7 + 4, none⟩ (.int .i64 k.b)).setCell ⟨g, n * 7 + 5, none⟩ (.int .i64 k.c)).setCell ⟨g, n * 7 + 6, none⟩ (.int .i64 k.d)) B (.slice (some ⟨g, 0, none⟩) N cap) qs ∧
      Below B w ((((((((wr.alloc o).setCell ⟨g, n * 7, none⟩ (.int .i64 k.t)).setCell ⟨g, n * 7 + 1, none⟩ (.int .i64 0)).setCell ⟨g, n * 7 + 2, none⟩ (.int .i64 k.h)).setCell ⟨g, n * 7 + 3, none⟩ (.int .i64 k.a)).setCell ⟨g, n * 7 + 4, none⟩ (.int .i64 k.b)).setCell ⟨g, n * 7 + 5, none⟩ (.int .i64 k.c)).setCell ⟨g, n * 7 + 6, none⟩ (.int .i64 k.d)) := by
  have hg := hown.base.1
  have h0 : Own (wr.alloc o) B (.slice (some ⟨g, 0, none⟩) N cap) (qs.set n (ky qs n)) := by rw [set_self]; exact hown.alloc o
  have h1 := h0.put' hq hn 0 (n * 7) (by decide) rfl k.t
  have h2 := h1.put' hq hn 1 (n * 7 + 1) (by decide) rfl 0
  have h3 := h2.put' hq hn 2 (n * 7 + 2) (by decide) rfl k.h
  have h4 := h3.put' hq hn 3 (n * 7 + 3) (by decide) rfl k.a
  have h5 := h4.put' hq hn 4 (n * 7 + 4) (by decide) rfl k.b
  have h6 := h5.put' hq hn 5 (n * 7 + 5) (by decide) rfl k.c
  have h7 := h6.put' hq hn 6 (n * 7 + 6) (by decide) rfl k.d
  refine ⟨qs.set n (bare k), by simpa using hq, ?_, h7, (((((((hb.alloc hsz o).setCell hg _).setCell hg _).setCell hg _).setCell hg _).setCell hg _).setCell hg _).setCell hg _⟩
  intro j hj
  by_cases e : n = j
  · subst e; rw [ky_set_eq (by omega), hk]
  · rw [ky_set_ne e]; exact hst j (by omega)
theorem bared_all {ks : List Ck} {qs : List Ky} (hq : qs.length = ks.length) (h : ∀ j, j < ks.length → ky qs j = bare (ck ks j)) : qs = bares ks := by
  apply List.ext_getElem?
  intro j
  by_cases hj : j < ks.length
  · have := h j hj
    rw [← ky_bares] at this
    unfold ky at this
    rw [List.getD_eq_getElem?_getD, List.getD_eq_getElem?_getD, List.getElem?_eq_getElem (by omega), List.getElem?_eq_getElem (by rw [bares_length]; exact hj)] at this
    rw [List.getElem?_eq_getElem (by omega), List.getElem?_eq_getElem (by rw [bares_length]; exact hj)]
    exact congrArg some this
  · rw [List.getElem?_eq_none (by omega), List.getElem?_eq_none (by rw [bares_length]; omega)]

set_option maxHeartbeats 2000000 in
theorem h_bare1 (g o cap : Nat) (ks : List Ck) (w : World) (hr : Crow w g o ks) (hn : 0 < ks.length) (hf : ks.length ≤ 1000) :
    Calls Try.prog 64 #[.slice (some ⟨g, o, none⟩) ks.length cap] w (Bared w ks) := by
  obtain ⟨i0, hi, hz0, hz1, hz2⟩ := info_parts Try.infoKey
  have hg := hr.lt hn
  have HR := Lib.hid hr
  clear hr
  obtain ⟨B, hB⟩ : ∃ B, w.heap.size = B := ⟨_, rfl⟩
  rw [hB] at hg
  have HW := Lib.hid hB
  obtain ⟨N, hN⟩ : ∃ N, ks.length = N := ⟨_, rfl⟩
  rw [hN] at hn hf ⊢
  have HN := Lib.hid hN
  clear hN
  go_enter Try.func64, Try.ntmps64
  go_wp2_with (at_make; refine wpList_make_full _ rfl _ _ 26 rfl B 63 i0 (.agg #[.int .i64 0, .int .i64 0, .int .i64 0, .int .i64 0, .int .i64 0, .int .i64 0, .int .i64 0]) 7 Try.underlying26 hi hz0 hz1 _ _ _ _ N rfl rfl rfl rfl ?m1 ?m2 ?m3 ?_)
  case m1 => rw [hz2]; omega
  case m2 => unfold maxLen; omega
  case m3 => omega
  intro w3 hown3 hg3
  have hb3 : Below B w w3 := (Below.refl _ _).grown hg3 (by omega) (fun k hk => by cases hk)
  have ho3 : Own w3 B (.slice (some ⟨B, 0, none⟩) N N) (List.replicate N default) := by
    unfold Own
    rw [← made_keys, List.length_replicate, ← hB]
    rw [← hB] at hown3
    exact hown3
  have R0 : Hid (∃ qs : List Ky, qs.length = N ∧ (∀ j, j < 0 → ky qs j = bare (ck ks j)) ∧ Own w3 B (.slice (some ⟨B, 0, none⟩) N N) qs ∧ Below B w w3) := Lib.hid ⟨_, by simp, fun j hj => by omega, ho3, hb3⟩
  clear hown3 hg3 hb3 ho3 hB
  go_wp2
  go_loopw [4, 5, 11] (fun _ _ i wr => ∃ n : Nat, n ≤ N ∧ i = .int .i64 n ∧ ∃ qs : List Ky, qs.length = N ∧ (∀ j, j < n → ky qs j = bare (ck ks j)) ∧ Own wr B (.slice (some ⟨B, 0, none⟩) N N) qs ∧ Below B w wr) (fun _ _ i _ => N - (intOf i).toNat)
  case atStart => exact ⟨0, by omega, rfl, R0.out⟩
  case round =>
    clear R0
    obtain ⟨n, hn', rfl, qs, hq, hst, hown, hb⟩ := hrel
    by_cases hlt : n < N
    · have hr := HR.out.below hb hg
      have hln : n < ks.length := by have := HN.out; omega
      have c0 := hr.c0 n hln
      have c1 := hr.c1 n hln
      have c2 := hr.c2 n hln
      have c3 := hr.c3 n hln
      have c4 := hr.c4 n hln
      have c5 := hr.c5 n hln
      have c6 := hr.c6 n hln
      have c7 := hr.c7 n hln
      have c8 := hr.c8 n hln
      have c9 := hr.c9 n hln
      obtain ⟨k, hk⟩ : ∃ k, ck ks n = k := ⟨_, rfl⟩
      rw [hk] at c0 c1 c2 c3 c4 c5 c6 c7 c8 c9
      have hsz : B ≤ wr.heap.size := by have := hb.size; have := HW.out; omega
      have R := Lib.hid (bare_put (o := .cells (kkCells k) 67) hk hsz hq hlt hst hown hb)
      have ho2 : Own (wr.alloc (.cells (kkCells k) 67)) B (.slice (some ⟨B, 0, none⟩) N N) qs := hown.alloc _
      have hr2 := ho2.row (by omega) (by omega)
      have d0 := hr2.c0 n (by omega)
      have d1 := hr2.c1 n (by omega)
      have d2 := hr2.c2 n (by omega)
      have d3 := hr2.c3 n (by omega)
      have d4 := hr2.c4 n (by omega)
      have d5 := hr2.c5 n (by omega)
      have d6 := hr2.c6 n (by omega)
      rw [Nat.zero_add] at d0 d1 d2 d3 d4 d5 d6
      have fz := ho2.fro hq
      have o1 : (n : Int) < N := by omega
      clear hr hr2 ho2 hq hst hown hb hk
      obtain ⟨kt, ⟨kr, kg, kb, kq⟩, kh, ka, ke, kf, kd⟩ := k
      simp only at c0 c1 c2 c3 c4 c5 c6 c7 c8 c9
      go_wp2
      go_roundw
      case rel => exact ⟨n + 1, by omega, by go_num, R.out⟩
      case measure => simp [intOf]; omega
    · have en : n = N := by omega
      have eq := bared_all (ks := ks) (qs := qs) (by rw [HN.out]; exact hq) (fun j hj => hst j (by have := HN.out; omega))
      have R : Bared w ks (.returned (.slice (some ⟨B, 0, none⟩) N N)) wr := ⟨_, rfl, by rw [HW.out, ← eq]; exact hown, by rw [HW.out]; exact hb⟩
      have RH := Lib.hid R
      have o1 : (N : Int) ≤ n := by omega
      clear R hown hb hst hq eq en
      go_wp2
      go_ret
      exact RH.out
set_option maxHeartbeats 1000000 in
theorem h_bare0 (ao : Option Addr) (cap : Nat) (w : World) :
    Calls Try.prog 64 #[.slice ao 0 cap] w (Bared w []) := by
  obtain ⟨i0, hi, hz0, hz1, hz2⟩ := info_parts Try.infoKey
  go_enter Try.func64, Try.ntmps64
  go_wp2_with (at_make; refine wpList_make_full _ rfl _ _ 26 rfl w.heap.size 63 i0 (.agg #[.int .i64 0, .int .i64 0, .int .i64 0, .int .i64 0, .int .i64 0, .int .i64 0, .int .i64 0]) 7 Try.underlying26 hi hz0 hz1 _ _ _ _ 0 rfl rfl rfl rfl ?m1 ?m2 ?m3 ?_)
  case m1 => rw [hz2]; omega
  case m2 => unfold maxLen; omega
  case m3 => omega
  intro w3 hown3 hg3
  have e := made_keys 0
  rw [Nat.zero_mul] at e
  rw [e] at hown3
  have R : Bared w [] (.returned (.slice (some ⟨w.heap.size, 0, none⟩) 0 0)) w3 := ⟨_, rfl, hown3, (Below.refl _ _).grown hg3 (by omega) (fun k hk => by cases hk)⟩
  have RH := Lib.hid R
  clear R hown3 hg3 e
  go_wp2
  go_loop [4, 5, 11] (fun _ _ i => i = .int .i64 0) (fun _ _ _ => 0)
  case atStart => rfl
  case round =>
    subst hrel
    go_wp2
    go_ret
    exact RH.out
theorem h_bare {v : Value} {ks : List Ck} {w : World} (h : Csl w v ks) (hf : ks.length ≤ 1000) : Calls Try.prog 64 #[v] w (Bared w ks) := by
  rcases h with ⟨rfl, ao, cap, rfl⟩ | ⟨hn, g, o, cap, rfl, hr⟩
  · exact h_bare0 ao cap w
  · exact h_bare1 g o cap ks w hr hn hf
theorem Csl.len {w : World} {v : Value} {ks : List Ck} (h : Csl w v ks) : ks.length ≤ 8796093022208 ∧ ∃ ao cap, v = .slice ao ks.length cap := by
  rcases h with ⟨rfl, ao, cap, rfl⟩ | ⟨_, g, o, cap, rfl, hr⟩
  · exact ⟨by simp, ao, cap, rfl⟩
  · exact ⟨hr.few, _, cap, rfl⟩
theorem h_right {v : Value} {ks : List Ck} {w : World} (h : Csl w v ks) :
    Calls Try.prog 47 #[v] w fun e w' => e = .returned (.bool (right (bares ks))) ∧ Below w.heap.size w w' := by
  obtain ⟨hf, ao, cap, rfl⟩ := h.len
  by_cases h32 : ks.length ≤ 32
  · have HB := Lib.hid (h_bare h (by omega))
    have o1 : (ks.length : Int) ≤ 32 := by omega
    clear h
    go_enter Try.func47, Try.ntmps47
    go_wp2_with fail
    refine HB.out.mono ?_
    rintro e w1 ⟨v, rfl, hown, hb⟩
    have HS := Lib.hid (hown.sl (by rw [bares_length]; exact hf))
    have HB1 := Lib.hid hb
    clear hown hb HB
    go_wp2_with fail
    refine (k_right HS.out).mono ?_
    rintro e w2 ⟨rfl, hq⟩
    have HB2 := Lib.hid (HB1.out.trans (hq.mono HB1.out.size))
    clear hq HS HB1
    go_wp2
    go_ret
    exact ⟨rfl, HB2.out⟩
  · have e : right (bares ks) = false := by unfold right; rw [bares_length]; simp [h32]
    rw [e]
    have o1 : (32 : Int) < ks.length := by omega
    clear h e
    go_enter Try.func47, Try.ntmps47
    go_wp2
    go_ret
    exact ⟨rfl, Below.refl _ _⟩

end Go.Proofs.Ytglbfpjjnboeaaa
