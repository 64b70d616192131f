/- The walk of mutoscopelaw5.KeyMade: it returns true; of the memory nothing that was there turns. No condition. -/
import Derived.Test.YteikhmendjahnaaTY5
import Derived.Test.YteikhmendjahnaaL5
import Derived.Deep.RegionHeld3
import Derived.Deep.AppendLies
import Derived.Deep.DrawnRows
import Derived.Deep.RegionWith
namespace Go.Proofs.Yteikhmendjahnaa
open Go.RowKit
open M
attribute [local go_sem ↓] Go.wp_at_zero Go.wp_at_succ

/-- The keys lie in block g, which is younger than B; below B the world is as w was. -/
structure Mk (w : World) (B g : Nat) (qs : List Ky) (w' : World) : Prop where
  row : Row w' g 0 qs
  below : Below B w w'
  base : B ≤ w'.heap.size
  lt : g < w'.heap.size
theorem Mk.alloc {w w' : World} {B g : Nat} {qs : List Ky} (h : Mk w B g qs w') (o : Obj) : Mk w B g qs (w'.alloc o) :=
  ⟨h.row.below ((Below.refl _ _).alloc (Nat.le_refl _) o) h.lt, h.below.alloc h.base o, by have := h.base; simp; omega, by have := h.lt; simp; omega⟩
theorem Mk.call {w w' w'' : World} {B g : Nat} {qs : List Ky} (h : Mk w B g qs w') (hq : Below w'.heap.size w' w'') : Mk w B g qs w'' :=
  ⟨h.row.below hq h.lt, h.below.trans (hq.mono h.base), by have := h.base; have := hq.size; omega, by have := h.lt; have := hq.size; omega⟩
theorem Mk.drew {w w' : World} {B g : Nat} {qs : List Ky} (h : Mk w B g qs w') : Mk w B g qs w'.drew := h.call (below_drew (Below.refl _ _))
theorem Mk.grown {w w' w'' : World} {B g : Nat} {qs : List Ky} {row : Option Nat} (h : Mk w B g qs w') (hg : w'.grownBy w'' row) (hr : ∀ k, row = some k → B ≤ k ∧ k ≠ g) : Mk w B g qs w'' := by
  have hb : ∀ p : Addr, p.block = g → w''.cell? p = w'.cell? p := fun p e => World.cell?_of_block (hg.block p.block (by rw [e]; exact h.lt) (fun e2 => (hr p.block e2.symm).2 e))
  refine ⟨⟨h.row.few, fun i hi => (hb _ rfl).trans (h.row.c0 i hi), fun i hi => (hb _ rfl).trans (h.row.c1 i hi), fun i hi => (hb _ rfl).trans (h.row.c2 i hi), fun i hi => (hb _ rfl).trans (h.row.c3 i hi), fun i hi => (hb _ rfl).trans (h.row.c4 i hi), fun i hi => (hb _ rfl).trans (h.row.c5 i hi), fun i hi => (hb _ rfl).trans (h.row.c6 i hi)⟩, h.below.grown hg h.base (fun k e => (hr k e).1), ?_, ?_⟩
  · have := h.base; have := hg.size; omega
  · have := h.lt; have := hg.size; omega
/-- .. with key m's cells told one by one. -/
abbrev MkS (w : World) (B g : Nat) (qs : List Ky) (m : Nat) (k : Ky) (w' : World) : Prop := Mk w B g qs w' ∧ w'.cell? ⟨g, m * 7, none⟩ = some (.int .i64 k.t) ∧ w'.cell? ⟨g, m * 7 + 1, none⟩ = some (.int .i64 k.v) ∧ w'.cell? ⟨g, m * 7 + 2, none⟩ = some (.int .i64 k.h) ∧
  w'.cell? ⟨g, m * 7 + 3, none⟩ = some (.int .i64 k.a) ∧ w'.cell? ⟨g, m * 7 + 4, none⟩ = some (.int .i64 k.b) ∧ w'.cell? ⟨g, m * 7 + 5, none⟩ = some (.int .i64 k.c) ∧ w'.cell? ⟨g, m * 7 + 6, none⟩ = some (.int .i64 k.d)
theorem Mk.s {w w' : World} {B g m : Nat} {qs : List Ky} {k : Ky} (h : Mk w B g qs w') (hm : m < qs.length) (hk : ky qs m = k) : MkS w B g qs m k w' := by
  subst hk
  have r := h.row
  have c0 := r.c0 m hm
  have c1 := r.c1 m hm
  have c2 := r.c2 m hm
  have c3 := r.c3 m hm
  have c4 := r.c4 m hm
  have c5 := r.c5 m hm
  have c6 := r.c6 m hm
  rw [Nat.zero_add] at c0 c1 c2 c3 c4 c5 c6
  exact ⟨h, c0, c1, c2, c3, c4, c5, c6⟩

theorem Mk.news {w w' : World} {B g : Nat} {qs : List Ky} (h : Mk w B g qs w') : ∀ j u, (kls qs)[j]? = some u → w'.cell? ((⟨g, 0, none⟩ : Addr).add j) = some u := by
  intro j u hu
  have hj := (List.getElem?_eq_some_iff.1 hu).1
  rw [kls_length] at hj
  have e1 : j = j / 7 * 7 + j % 7 := by omega
  rw [e1] at hu ⊢
  rw [kls_at (by omega) (by omega)] at hu
  rw [Addr.add_lit]
  have r := h.row
  have hi : j / 7 < qs.length := by omega
  rcases (show j % 7 = 0 ∨ j % 7 = 1 ∨ j % 7 = 2 ∨ j % 7 = 3 ∨ j % 7 = 4 ∨ j % 7 = 5 ∨ j % 7 = 6 by omega) with e | e | e | e | e | e | e <;> rw [e] at hu ⊢ <;> simp [kl] at hu <;> subst hu
  · exact r.c0 _ hi
  · rw [← Nat.add_assoc]; exact r.c1 _ hi
  · rw [← Nat.add_assoc]; exact r.c2 _ hi
  · rw [← Nat.add_assoc]; exact r.c3 _ hi
  · rw [← Nat.add_assoc]; exact r.c4 _ hi
  · rw [← Nat.add_assoc]; exact r.c5 _ hi
  · rw [← Nat.add_assoc]; exact r.c6 _ hi
theorem ones_kls (ks : List Ky) : ∀ u ∈ kls ks, u.oneCell' = true := by
  intro u hu
  obtain ⟨k, _, hk⟩ := List.mem_flatMap.1 hu
  exact ints_one_kl k u hk
theorem own_empty {w : World} {B H : Nat} (hb : B ≤ w.heap.size) (hH : w.heap.size = H) : Own (w.alloc (.cells #[] 26)) B (.slice (some ⟨H, 0, none⟩) 0 0) [] := by
  subst hH
  exact World.ownsRow_lit w #[] 0 hb (by unfold maxLen; omega) rfl
theorem own_one {w : World} {B H : Nat} {k : Ky} (hb : B ≤ w.heap.size) (hH : w.heap.size = H) : Own (w.alloc (.cells (kCells k) 26)) B (.slice (some ⟨H, 0, none⟩) 1 1) [k] := by
  subst hH
  exact World.ownsRow_lit w (kCells k) 1 hb (by unfold maxLen; omega) rfl
theorem news_grown {w0 w1 : World} {row : Option Nat} {H : Nat} {k : Ky} (hg : w0.grownBy w1 row) (hne : some H ≠ row) (h : ∀ j u, (kl k)[j]? = some u → w0.cell? ((⟨H, 0, none⟩ : Addr).add j) = some u) : ∀ j u, (kl k)[j]? = some u → w1.cell? ((⟨H, 0, none⟩ : Addr).add j) = some u := by
  intro j u hu
  have := h j u hu
  rw [Addr.add_lit] at this ⊢
  exact hg.cell this hne
/-- An append at a step of a region that draws: keys onto keys. -/
theorem step_append_keys {w0 w : World} {B g : Nat} {qs : List Ky} {ops : Array Oper} {o : Oper} {a : Act} {K : Act → World → Prop} {Q : Exit → Act → World → Prop} {E : Prop} (hw : Region.wanted o (yielded ops a.tmps) = true) (s x : Operand)
    (ho : o.op = .call { callee := .builtin .append, args := #[s, x], argTypes := #[22, 22] })
    (n : Nat) (xs ys zs : List Ky) (hz : zs = xs ++ ys) (v : Value) (hs : a.eval s = v) (hown : Own w B v xs) (ad : Addr) (m c : Nat) (hx : a.eval x = .slice (some ad) m c) (hn : xs.length + m = n) (hm : ys.length = m) (hm0 : 0 < m) (hf : n ≤ 1000)
    (hnews : ∀ j u, (kls ys)[j]? = some u → w.cell? (ad.add j) = some u) (hmk : Mk w0 B g qs w) (hv : ∀ k, v.ownBlock = some k → g < k)
    (h : ∀ g' cap' w', Own w' B (.slice (some ⟨g', 0, none⟩) n cap') zs → w.grownBy w' v.ownBlock → Mk w0 B g qs w' → g < g' → K (a.put o.dst (.slice (some ⟨g', 0, none⟩) n cap')) w') :
    if Region.wanted o (yielded ops a.tmps) = true then Oper.wp Try.prog o a w K Q else E := by
  rw [if_pos hw]
  obtain ⟨i0, hi, hz0, hz1, hz2⟩ := info_parts Try.infoKey
  refine wp_append_lies w s x 22 ho B 26 i0 _ 7 56 Try.underlying22 hi hz0 hz1 hz2 rfl (by decide) v xs.length (kls xs) hs hown ad m c (kls ys) hx (by rw [kls_length, hm]) hnews (ones_kls ys) hm0 (by unfold maxLen; omega) (by omega) hmk.base _ rfl ?_
  intro g' cap' w' hown' hg hat _
  have e : xs.length + m = n := hn
  rw [e] at hown' ⊢
  refine h g' cap' w' ?_ hg (hmk.grown hg fun k hk => ⟨(World.ownsRow.lt hown k hk).1, by have := hv k hk; omega⟩) ?_
  · unfold Own
    rw [hz, List.length_append, hm, e]
    have : kls (xs ++ ys) = kls xs ++ kls ys := by simp [kls]
    rw [this]
    exact hown'
  · rcases hat with hat | hat
    · exact hv g' hat
    · rw [hat]; exact hmk.lt

theorem right_of {qs : List Ky} {A : Int} (h : Kept qs A) (hl : qs.length ≤ 3) : right qs = true := by
  unfold right; rw [h.right]; simp; omega
theorem Kept.le_last {qs : List Ky} {A : Int} (h : Kept qs A) {i : Nat} (hi : i < qs.length) : (ky qs i).t ≤ (ky qs (qs.length - 1)).t := by
  have : ∀ n, i < n → n ≤ qs.length → (ky qs i).t ≤ (ky qs (n - 1)).t := by
    intro n
    induction n with
    | zero => omega
    | succ n ih =>
      intro h1 h2
      by_cases e : i = n
      · subst e; exact Int.le_refl _
      · have a := ih (by omega) (by omega)
        have b := rightN_mono h2 h.right
        unfold rightN at b
        simp only [Bool.and_eq_true, Bool.or_eq_true, decide_eq_true_eq] at b
        have c := b.2
        show _ ≤ (ky qs (n + 1 - 1)).t
        rw [Nat.add_sub_cancel]
        omega
  exact this _ hi (Nat.le_refl _)
theorem right_twice {qs : List Ky} {k : Ky} (h0 : 0 < qs.length) (hk : ky qs (qs.length - 1) = k) : right (qs ++ [k]) = false := by
  have : rightN (qs ++ [k]) (qs ++ [k]).length = false := by
    rw [List.length_append]
    show rightN (qs ++ [k]) (qs.length + 1) = false
    unfold rightN
    rw [ky_last, ky_left (by omega), hk, show decide (qs.length = 0) = false from decide_eq_false (by omega), show decide (k.t < k.t) = false by simp]
    simp
  unfold right; rw [this]; simp
theorem right_ahead {qs : List Ky} {k : Ky} {A : Int} (h : Kept qs A) (h0 : 0 < qs.length) (hk : ky qs (qs.length - 1) = k) : right ([k] ++ qs) = false := by
  have h1 := h.le_last h0
  rw [hk] at h1
  have e0 : ky ([k] ++ qs) 0 = k := ky_zero k qs
  have e1 : ky ([k] ++ qs) 1 = ky qs 0 := ky_cons k qs 0
  have : rightN ([k] ++ qs) ([k] ++ qs).length = false := by
    refine rightN_off (m := 2) (by simp; omega) ?_
    unfold rightN
    rw [e1, show (1 : Nat) - 1 = 0 from rfl, e0]
    simp
    omega
  unfold right; rw [this]; simp

set_option maxHeartbeats 4000000 in
theorem keyMade_walk {w : World} (l : Value) (_ : Unit) (hN : Nums w l) :
    Calls Try.prog 6 #[l] w fun r w' => r = .returned (.bool true) ∧ Below w.heap.size w w' := by
  obtain ⟨ao0, n0, cap0, rfl⟩ : ∃ ao n cap, l = .slice ao n cap := by
    rcases hN with ⟨ao, cap, rfl⟩ | ⟨b, o, n, cap, rfl, _⟩
    · exact ⟨_, _, _, rfl⟩
    · exact ⟨_, _, _, rfl⟩
  obtain ⟨B, hB⟩ : ∃ B, w.heap.size = B := ⟨_, rfl⟩
  have hT : Tp (w.alloc (.cells #[.slice ao0 n0 cap0, .int .i64 0] 38)) B (.slice ao0 n0 cap0) := by
    have hh : Has (w.alloc (.cells #[.slice ao0 n0 cap0, .int .i64 0] 38)) B #[.slice ao0 n0 cap0, .int .i64 0] 38 := has_new hB
    rcases hN with ⟨ao, cap, hv⟩ | ⟨b, o, n, cap, hv, h0, h1, hc⟩
    · exact Or.inl ⟨ao, cap, hv, hh⟩
    · refine Or.inr ⟨b, o, n, cap, 0, hv, h0, ?_, h1, Nat.zero_le _, hh, fun i hi => ?_⟩
      · obtain ⟨x, hx⟩ := hc 0 h0
        have := World.block_lt_of_cell? w _ hx
        simp only at this
        omega
      · obtain ⟨x, hx⟩ := hc i hi
        exact ⟨x, (((Below.refl _ _).alloc (Nat.le_refl _) _).cell (World.block_lt_of_cell? w _ hx)).trans hx⟩
  rw [hB]
  have HB0 := Lib.hid hB
  have HT := Lib.hid hT
  clear hB hT hN
  go_enter Try.func6, Try.ntmps6
  go_wp2_with fail
  rw [HB0.out]
  refine (t_keys B (.slice ao0 n0 cap0) _ HT.out).mono ?_
  rintro e w1 ⟨v, qs, A, rfl, hk, h3, hown, _, hg⟩
  have hb1 : Below B w w1 := by
    have h1 : w.grownBy w1 (some B) := grownBy_trans (World.grownBy_alloc w _ _) hg
    exact ⟨h1.os, h1.tape, h1.output, h1.size, fun k hk => h1.block k (by have := HB0.out; omega) (fun e => by simp at e; omega)⟩
  have hs1 : w1.heap.size > B := by have h1 := hg.size; have h2 := HB0.out; simp at h1; omega
  have SL := Lib.hid (hown.sl (by omega))
  have HB1 := Lib.hid hb1
  have HK := Lib.hid hk
  have HO := Lib.hid hown
  clear hb1 hk hown hg HT
  go_wp2_with fail
  refine (k_right SL.out).mono ?_
  rw [right_of HK.out h3]
  rintro e w2 ⟨rfl, hq⟩
  have S2 := Lib.hid (SL.out.below hq)
  have HB2 := Lib.hid (HB1.out.trans (hq.mono (by omega)))
  have hs2 : w2.heap.size > B := by have := hq.size; omega
  clear HB1
  by_cases h0 : qs.length = 0
  · obtain ⟨ao, cap, rfl⟩ : ∃ ao cap, v = .slice ao 0 cap := by
      rcases SL.out with ⟨_, h⟩ | ⟨h, _⟩
      · exact h
      · omega
    clear hq SL S2 HO HK
    go_wp2_with fail
    refine (known5 _).mono ?_
    rintro e w3 ⟨rfl, hq⟩
    have HB3 := Lib.hid (HB2.out.trans (hq.mono (by omega)))
    clear hq HB2
    go_wp2
    go_ret
    exact ⟨rfl, HB3.out⟩
  · obtain ⟨g, cap, rfl⟩ := HO.out.shape (by omega)
    have hr1 : Row w1 g 0 qs := HO.out.row (by omega) (by omega)
    have hgw := hr1.lt (by omega)
    have MK : Mk w B g qs w2 := ⟨hr1.below hq hgw, HB2.out, by omega, by have := hq.size; omega⟩
    obtain ⟨m, hm⟩ : ∃ m, qs.length = m + 1 := ⟨qs.length - 1, by omega⟩
    obtain ⟨k, hk⟩ : ∃ k, ky qs m = k := ⟨_, rfl⟩
    have e1 : right (qs ++ [k]) = false := right_twice (by omega) (by rw [hm]; exact hk)
    have e2 : right ([k] ++ qs) = false := right_ahead HK.out (by omega) (by rw [hm]; exact hk)
    obtain ⟨N, hN⟩ : ∃ N, qs.length = N := ⟨_, rfl⟩
    have hmq : m < qs.length := by omega
    have o1 : (m : Int) < (N : Int) := by omega
    have o0 : (0 : Int) ≤ (m : Int) := by omega
    have o2 : (N : Int) - 1 = (m : Int) := by omega
    have o3 : ¬ (N : Int) = 0 := by omega
    have ew : IntKind.i64.wrap (m : Int) = (m : Int) := IntWalk.i64_in _ (by omega)
    have hkl : (kls qs).length = N * 7 := by rw [kls_length, hN]
    have BASE := Lib.hid MK.base
    have GLT := Lib.hid MK.lt
    have HPOS := Lib.hid (show 0 < N by omega)
    have HFEW := Lib.hid (show N ≤ 1000 by omega)
    have HFEW1 := Lib.hid (show N + 1 ≤ 1000 by omega)
    have HFEW2 := Lib.hid (show 1 + N ≤ 1000 by omega)
    have LEN2 := Lib.hid (show (qs ++ [k]).length ≤ 1000 by simp; omega)
    have LEN3 := Lib.hid (show ([k] ++ qs).length ≤ 1000 by simp; omega)
    have MKH := Lib.hid MK
    have HKY := Lib.hid hk
    have HNQ := Lib.hid hN
    have HM := Lib.hid hm
    have E1 := Lib.hid e1
    have E2 := Lib.hid e2
    have HKL := Lib.hid hkl
    have HMQ := Lib.hid hmq
    rw [hN]
    clear hr1 hgw MK hm hk e1 e2 hN h0 h3 hkl hmq S2 HB2 HK HO SL hq hs1 hs2
    obtain ⟨kt, kv, kh, ka, kb, kc, kd⟩ := k
    obtain ⟨i0, hi, hz0, hz1, hz2⟩ := info_parts Try.infoKey
    go_wp2_with fail
    go_region_held3 (fun w' => Mk w B g qs w' ∧ w'.cell? ⟨g, m * 7, none⟩ = some (.int .i64 kt) ∧ w'.cell? ⟨g, m * 7 + 1, none⟩ = some (.int .i64 kv) ∧ w'.cell? ⟨g, m * 7 + 2, none⟩ = some (.int .i64 kh) ∧ w'.cell? ⟨g, m * 7 + 3, none⟩ = some (.int .i64 ka) ∧ w'.cell? ⟨g, m * 7 + 4, none⟩ = some (.int .i64 kb) ∧ w'.cell? ⟨g, m * 7 + 5, none⟩ = some (.int .i64 kc) ∧ w'.cell? ⟨g, m * 7 + 6, none⟩ = some (.int .i64 kd)) ((go_split_ands; first | exact Mk.s MKH.out.drew HMQ.out HKY.out | exact Mk.s (by assumption) HMQ.out HKY.out | exact Mk.s (Mk.alloc (by assumption) _) HMQ.out HKY.out))
      (first
        | (go_split_ands; refine step_append_keys (w0 := w) (g := g) (qs := qs) (by rfl) (.tmp 17) (.tmp 18) (by rfl) N [] qs qs (by rfl) (.slice (some ⟨w2.heap.size, 0, none⟩) 0 0) (by rfl) (by first | exact own_empty BASE.out rfl | exact (own_empty BASE.out rfl).alloc _) ⟨g, 0, none⟩ N cap (by rfl) (by simp) HNQ.out HPOS.out HFEW.out (Mk.news (by assumption)) (by assumption) (by intro k hk; have e : w2.heap.size = k := Option.some.inj hk; have := GLT.out; omega) ?_; intro g1 cap1 wa own1 grow1 mk1 gt1)
        | (go_split_ands; refine step_append_keys (w0 := w) (g := g) (qs := qs) (by rfl) (.tmp 17) (.tmp 18) (by rfl) N [] qs qs (by rfl) (.slice (some ⟨w2.heap.size + 1, 0, none⟩) 0 0) (by rfl) (by have hA : Own ((w2.alloc (.cells (kCells ⟨kt, kv, kh, ka, kb, kc, kd⟩) 26)).alloc (.cells #[] 26)) B (.slice (some ⟨w2.heap.size + 1, 0, none⟩) 0 0) [] := own_empty (w := w2.alloc (.cells (kCells ⟨kt, kv, kh, ka, kb, kc, kd⟩) 26)) (by simp; have := BASE.out; omega) (by simp); exact hA) ⟨g, 0, none⟩ N cap (by rfl) (by simp) HNQ.out HPOS.out HFEW.out (Mk.news (by assumption)) (by assumption) (by intro k hk; have e : w2.heap.size + 1 = k := Option.some.inj hk; have := GLT.out; omega) ?_; intro g1 cap1 wa own1 grow1 mk1 gt1)
        | (go_split_ands; refine step_append_keys (w0 := w) (g := g) (qs := qs) (by rfl) (.tmp 19) (.tmp 26) (by rfl) (N + 1) qs [⟨kt, kv, kh, ka, kb, kc, kd⟩] (qs ++ [⟨kt, kv, kh, ka, kb, kc, kd⟩]) (by rfl) (.slice (some ⟨g1, 0, none⟩) N cap1) (by rfl) (by first | exact own1 | exact own1.alloc _) ⟨wa.heap.size, 0, none⟩ 1 1 (by rfl) (by rw [HNQ.out]) (by rfl) (by decide) HFEW1.out (seven_cells rfl) (by assumption) (by intro k hk; have e : g1 = k := Option.some.inj hk; omega) ?_; intro g2 cap2 wb own2 grow2 mk2 gt2)
        | (go_split_ands; refine step_append_keys (w0 := w) (g := g) (qs := qs) (by rfl) (.tmp 19) (.tmp 26) (by rfl) (N + 1) qs [⟨kt, kv, kh, ka, kb, kc, kd⟩] (qs ++ [⟨kt, kv, kh, ka, kb, kc, kd⟩]) (by rfl) (.slice (some ⟨g1, 0, none⟩) N cap1) (by rfl) (by first | exact own1 | exact own1.alloc _) ⟨w2.heap.size + 1, 0, none⟩ 1 1 (by rfl) (by rw [HNQ.out]) (by rfl) (by decide) HFEW1.out (news_grown grow1 (by simp [Value.ownBlock]) (seven_cells (by simp))) (by assumption) (by intro k hk; have e : g1 = k := Option.some.inj hk; omega) ?_; intro g2 cap2 wb own2 grow2 mk2 gt2)
        | (go_split_ands; refine step_append_keys (w0 := w) (g := g) (qs := qs) (by rfl) (.tmp 19) (.tmp 26) (by rfl) (N + 1) qs [⟨kt, kv, kh, ka, kb, kc, kd⟩] (qs ++ [⟨kt, kv, kh, ka, kb, kc, kd⟩]) (by rfl) (.slice (some ⟨g1, 0, none⟩) N cap1) (by rfl) (by first | exact own1 | exact own1.alloc _) ⟨w2.heap.size, 0, none⟩ 1 1 (by rfl) (by rw [HNQ.out]) (by rfl) (by decide) HFEW1.out (news_grown grow1 (by simp [Value.ownBlock]) (news_grown (w1 := (w2.alloc (.cells (kCells ⟨kt, kv, kh, ka, kb, kc, kd⟩) 26)).alloc (.cells #[] 26)) (World.grownBy_alloc _ _ none) (by simp) (seven_cells rfl))) (by assumption) (by intro k hk; have e : g1 = k := Option.some.inj hk; omega) ?_; intro g2 cap2 wb own2 grow2 mk2 gt2)
        | (go_split_ands; refine step_append_keys (w0 := w) (g := g) (qs := qs) (by rfl) (.tmp 37) (.tmp 38) (by rfl) (1 + N) [⟨kt, kv, kh, ka, kb, kc, kd⟩] qs ([⟨kt, kv, kh, ka, kb, kc, kd⟩] ++ qs) (by rfl) (.slice (some ⟨wc.heap.size, 0, none⟩) 1 1) (by rfl) (own_one mkc.base rfl) ⟨g, 0, none⟩ N cap (by rfl) (by rfl) HNQ.out HPOS.out HFEW2.out (Mk.news (by assumption)) (by assumption) (by intro k hk; have e : wc.heap.size = k := Option.some.inj hk; have := mkc.lt; omega) ?_; intro g3 cap3 wd own3 grow3 mk3 gt3)
        | (go_at_call_of 16 cap2; refine (k_right (own2.sl LEN2.out)).mono ?_; rw [E1.out]; rintro e wc ⟨rfl, hqc⟩; have mkc := Mk.call mk2 hqc)
        | (go_at_call_of 16 cap3; refine (k_right (own3.sl LEN3.out)).mono ?_; rw [E2.out]; rintro e we ⟨rfl, hqe⟩; have mke := Mk.call mk3 hqe)
        | (go_at_call 11; refine (known5 _).mono ?_; rintro e wf ⟨rfl, hqf⟩; have mkf := Mk.call mke hqf))
    all_goals
      go_wp2
      go_ret
      exact ⟨rfl, (show Mk w B g qs _ by assumption).below⟩

end Go.Proofs.Yteikhmendjahnaa
