/- ArcJoins of the statements: whatever the numbers are, the call returns true and each argument reads as it did; no condition. -/
import Derived.Test.YtddcjdhlmlhgdaaN4
import Derived.Test.YtddcjdhlmlhgdaaJM9
import Derived.Test.YtddcjdhlmlhgdaaK9
import Derived.Test.YtddcjdhlmlhgdaaPT9
import Derived.Test.YtddcjdhlmlhgdaaYO8
import Derived.BigQuiet
import Derived.Test.YtddcjdhlmlhgdaaRows
import Derived.WalkKit
import Derived.ProofKit
import Derived.OpenShut
import Derived.Test.YtddcjdhlmlhgdaaAT5
import Derived.Carry
namespace Go.Proofs.Ytddcjdhlmlhgdaa
open Go Go.RowKit
open M

theorem prow_take {w : World} {g o n : Nat} {ps : List Pt} (h : Prow w g o ps) (hn : n ≤ ps.length) : Prow w g o (ps.take n) := by
  have hf := h.few
  refine ⟨by rw [List.length_take]; omega, fun i hi => ?_, fun i hi => ?_⟩
  · rw [List.length_take] at hi
    rw [pt_take (by omega)]
    exact h.c0 i (by omega)
  · rw [List.length_take] at hi
    rw [pt_take (by omega)]
    exact h.c1 i (by omega)
theorem prow_drop {w : World} {g k : Nat} {ps : List Pt} (h : Prow w g 0 ps) : Prow w g (k * 2) (ps.drop k) := by
  have hf := h.few
  refine ⟨by rw [List.length_drop]; omega, fun i hi => ?_, fun i hi => ?_⟩
  · rw [List.length_drop] at hi
    have := h.c0 (k + i) (by omega)
    rw [pt_drop]
    rw [show k * 2 + i * 2 = 0 + (k + i) * 2 by omega]
    exact this
  · rw [List.length_drop] at hi
    have := h.c1 (k + i) (by omega)
    rw [pt_drop]
    rw [show k * 2 + i * 2 = 0 + (k + i) * 2 by omega]
    exact this
theorem psl_take {w : World} {g n cap : Nat} {ps : List Pt} (h : Prow w g 0 ps) (hn : n ≤ ps.length) : Psl w (.slice (some ⟨g, 0, none⟩) n cap) (ps.take n) := by
  have hf := h.few
  have hl : (ps.take n).length = n := by rw [List.length_take]; omega
  exact ⟨_, cap, by rw [hl], by omega, fun _ => ⟨g, 0, rfl, prow_take h hn⟩⟩
theorem psl_drop {w : World} {g k n cap : Nat} {ps : List Pt} (h : Prow w g 0 ps) (hn : n = ps.length - k) : Psl w (.slice (some ⟨g, k * 2, none⟩) n cap) (ps.drop k) := by
  have hf := h.few
  have hl : (ps.drop k).length = n := by rw [List.length_drop]; omega
  exact ⟨_, cap, by rw [hl], by omega, fun _ => ⟨g, k * 2, rfl, prow_drop h⟩⟩
theorem small_plc {ps : List Pt} (h : Small9 ps) {i : Nat} (hi : i < ps.length) : sa ps i = pt ps i := by
  obtain ⟨h1, h2, h3, h4⟩ := h i hi
  unfold sa
  obtain ⟨x, hx⟩ : ∃ p, pt ps i = p := ⟨_, rfl⟩
  rw [hx] at h1 h2 h3 h4 ⊢
  obtain ⟨a, b⟩ := x
  simp only at h1 h2 h3 h4
  simp only [plc, place_in (a := a) (by omega) (by omega), place_in (a := b) (by omega) (by omega)]

abbrev zY9 : Array Value := #[.bool false, .slice none 0 0]
theorem vs9_p {p q : Array Value} : ∀ y ∈ [(11, 13, p), (12, 14, q)], (y.1 = 11 → y = (11, 13, p)) ∧ (y.1 = 12 → y = (12, 14, q)) := by
  intro y hy
  simp at hy
  rcases hy with rfl | rfl <;> simp

set_option maxRecDepth 100000 in
set_option maxHeartbeats 8000000 in
theorem arcJoins_walk {w : World} (l1 : Value) (_ : Unit) (at_ : Int) (hN1 : Nums w l1) :
    Calls Try.prog 6 #[l1, .int .i64 at_] w fun r w' => r = .returned (.bool true) ∧ Below w.heap.size w w' := by
  obtain ⟨B, hB⟩ : ∃ B, w.heap.size = B := ⟨_, rfl⟩
  obtain ⟨W, hW⟩ : ∃ W, w.alloc (.cells #[l1, .int .i64 0] 36) = W := ⟨_, rfl⟩
  have hb0 : Below w.heap.size w W := by rw [← hW]; exact (Below.refl _ _).alloc (Nat.le_refl _) _
  have T1 : Tp W B l1 := tp_start hN1 (by rw [← hW]; exact has_new hB) hb0 (by omega)
  have sz0 : W.heap.size = B + 1 := by rw [← hW]; simp [hB]
  rw [hB] at hb0
  obtain ⟨a1, n1, c1, rfl⟩ := hN1.shape
  have HB := Lib.hid hB
  have HW := Lib.hid hW
  have HB0 := Lib.hid hb0
  have SZ := Lib.hid sz0
  have PL := Lib.hid (l9_poly _ _ _ T1)
  clear hb0 T1 hW hN1 sz0
  go_enter Try.func6, Try.ntmps6
  go_wp2_with fail
  rw [HW.out]
  clear hB
  refine PL.out.mono ?_
  rintro e w1 ⟨c, pl, ps, rfl, h12, sm, ho, tp1, hg1⟩
  have sl1 := ho.sl (by omega)
  obtain ⟨ao, cap, hv⟩ := ho.len
  obtain ⟨N, hN⟩ : ∃ N, ps.length = N := ⟨_, rfl⟩
  rw [hN] at hv h12
  subst hv
  obtain ⟨gp, hgp⟩ : ∃ g, w1.heap.size = g := ⟨_, rfl⟩
  obtain ⟨V, hV⟩ : ∃ V, w1.alloc (.cells #[.bool false, .slice ao N cap] 24) = V := ⟨_, rfl⟩
  have KP : Has V gp #[.bool false, .slice ao N cap] 24 := by rw [← hV]; exact has_new hgp
  have OV : Pown V W.heap.size (.slice ao N cap) ps := by rw [← hV]; exact ho.alloc _
  have lgp : B < gp := by have := hg1.size; have := SZ.out; omega
  have bV : Below B w V := by
    rw [← hV]
    have q := SZ.out
    have q3 := hg1.size
    exact (below_on HB0.out hg1 (by omega) (by omega)).alloc (by omega) _
  have sV : V.heap.size = gp + 1 := by rw [← hV]; simp [hgp]
  have XP := Lib.hid KP
  have XO := Lib.hid OV
  have XS := Lib.hid (OV.sl (by omega))
  have BV := Lib.hid bV
  have HV := Lib.hid hV
  have SV := Lib.hid sV
  have HN := Lib.hid hN
  have SM := Lib.hid sm
  have r0 := KP.cell 0 _ rfl
  have r1 := KP.cell 1 _ rfl
  clear KP OV bV hV sV sl1 ho tp1 hg1 sm hN PL HB0
  go_upto_region 3 with fail
  rw [HV.out]
  clear hgp
  have LE := Lib.hid (fun (w' : World) (hb : Below V.heap.size V w') => a_length false (XS.out.below hb (Nat.le_refl _)))
  have SI := Lib.hid (fun (w' : World) => a_sides false ao N cap (by omega) w')
  by_cases h2 : N < 2
  · have o1 : (N : Int) < 2 := by omega
    have e0 : lengthL false ps = 0 := by unfold lengthL; rw [HN.out, sidesN_few _ h2, lenN_zero]
    rw [e0] at LE
    rw [sidesN_few _ h2] at SI
    go_wp2_with fail
    refine (LE.out _ (Below.refl _ _)).mono ?_
    rintro e w2 ⟨rfl, hq2⟩
    have kk := XP.out.below hq2 XP.out.lt
    have r0 := kk.cell 0 _ rfl
    have r1 := kk.cell 1 _ rfl
    have B2 := Lib.hid hq2
    clear kk hq2
    go_wp2_with fail
    refine (SI.out _).mono ?_
    rintro e w3 ⟨rfl, hq3⟩
    have B3 := Lib.hid (B2.out.trans (hq3.mono B2.out.size))
    clear hq3
    go_wp2_with fail
    refine (known9 _).mono ?_
    rintro e w4 ⟨rfl, hq4⟩
    have B4 := Lib.hid (B3.out.trans (hq4.mono B3.out.size))
    clear hq4
    go_wp2
    go_ret
    exact ⟨rfl, by rw [HB.out]; exact BV.out.trans (B4.out.mono (by have := SV.out; omega))⟩
  · obtain ⟨g, cap', hsh⟩ := XO.out.shape (by rw [HN.out]; omega)
    rw [HN.out] at hsh
    simp at hsh
    obtain ⟨rfl, rfl⟩ := hsh
    have hcap : N ≤ cap := by
      rcases XO.out.2 with ⟨hv, _⟩ | ⟨g', cap', cur, hv, _, _, h1, _⟩
      · simp at hv
      · simp at hv
        have := HN.out
        omega
    obtain ⟨k, hk, hmod, hm1, hm2⟩ := corner_mod (at_ := at_) (N := N) (by omega)
    have o1 : ¬ (N : Int) < 2 := by omega
    have oN : ¬ (N : Int) = 0 := by omega
    have o12 : (N : Int) ≤ 12 := by omega
    have ok : (k : Int) < N := by omega
    go_upto_region 5 with fail
    go_quiet (fail)
    obtain ⟨V1, hV1⟩ : ∃ V1, V.drewN nq = V1 := ⟨_, rfl⟩
    rw [hV1]
    have b1 : Below V.heap.size V V1 := by rw [← hV1]; exact below_drewN (Below.refl _ _) _
    have KP1 := Lib.hid (XP.out.below b1 XP.out.lt)
    have RW1 : Hid (Prow V1 g 0 ps) := Lib.hid ((XO.out.below b1 (Nat.le_refl _)).row (by have := HN.out; omega) (by have := HN.out; omega))
    have B1 := Lib.hid b1
    have HMD := Lib.hid hmod
    clear hV1 b1 hmod hm1 hm2 r0 r1 oN
    have ok1 : (k : Int) + 1 ≤ cap := by omega
    have ok2 : k + 1 ≤ cap := by omega
    have ok3 : k ≤ N := by omega
    have ok4 : (k : Int) ≤ N := by omega
    have ok5 : N ≤ cap := hcap
    have ok6 : (N : Int) ≤ cap := by omega
    have ok7 : (k : Int) ≤ cap := by omega
    have ok8 : k ≤ cap := by omega
    go_upto_region 6 with fail
    refine wp_region_gen 14 [11, 12, 13] [] [0, 0, 0, 0, 0, 0, 0, 0, 0, 0, 0, 1, 1, 1] (by kernel_rfl) (by kernel_rfl) (fun c a d v w h => by cases d <;> exact h) trivial (fun G w' => Vars V1.heap.size 24 zY9 [(11, 13, #[.bool false, .slice (some ⟨g, 0, none⟩) (k + 1) cap]), (12, 14, #[.bool false, .slice (some ⟨g, k * 2, none⟩) (N - k) (cap - k)])] G w') (fun G w w' h hb => h.stay hb) Vars.start ?_
    apply Exists.intro
    refine ⟨fun R hR hN => ?_, ?_, ?_⟩
    · have y1 := fun z => LaterR.read (R := R) KP1.out 1 _ rfl z
      simp only [quietL, takeA]
      repeat (go_big_quiet_step (fail))
      exact wpQuiet_nil rfl
    · intro i oo hi ho
      have hi' : i = 11 ∨ i = 12 ∨ i = 13 := by simpa using hi
      clear hi
      rcases hi' with rfl | rfl | rfl
      · cases ho
        intro G w' hG hGn hdep hb hR
        refine ⟨rfl, gives_none (by kernel_rfl) hGn ?_⟩
        unfold gives
        simp [go_sem]
        exact ⟨hb.alloc hb.size _, hR.alloc (i := 11) (s := 13) rfl (by simp) (fun y hy he => (vs9_p y hy).1 he) hG hb.size⟩
      · cases ho
        intro G w' hG hGn hdep hb hR
        refine ⟨rfl, gives_none (by kernel_rfl) hGn ?_⟩
        unfold gives
        simp [go_sem]
        exact ⟨hb.alloc hb.size _, hR.alloc (i := 12) (s := 14) rfl (by simp) (fun y hy he => (vs9_p y hy).2 he) hG hb.size⟩
      · cases ho
        intro G w' hG hGn hdep hb hR
        obtain ⟨v, hv⟩ := Option.ne_none_iff_exists'.1 (hdep 11 (by simp) (by kernel_rfl))
        obtain ⟨gx', rfl, hgx, hhx⟩ := hR.has (11, 13, #[.bool false, .slice (some ⟨g, 0, none⟩) (k + 1) cap]) (by simp) v hv
        rw [if_pos hG] at hhx
        refine ⟨rfl, gives_one (k := 11) (by kernel_rfl) hGn (by omega) hv ?_⟩
        have cx0 := hhx.cell 0 _ rfl
        have cx1 := hhx.cell 1 _ rfl
        have fx := has_fro hhx
        unfold gives
        simp [go_sem, dstAt, Act.put, cx0, cx1, fx]
        exact ⟨(hb.setCell hgx _).setCell hgx _, hR.store (i := 11) (s := 13) (za := .bool false) (zb := .slice none 0 0) rfl rfl (by simp) (fun y hy he => (vs9_p y hy).1 he) hv hG⟩
    intro G w3 hb3 hR hG hN'
    obtain ⟨v0, e0⟩ := hG 11 (by simp)
    obtain ⟨v1, e1⟩ := hG 12 (by simp)
    obtain ⟨s0, t0⟩ := hG 13 (by simp)
    obtain ⟨ga, rfl, l0, k0⟩ := hR.has (11, 13, #[.bool false, .slice (some ⟨g, 0, none⟩) (k + 1) cap]) (by simp) v0 e0
    obtain ⟨gb, rfl, l1, k1⟩ := hR.has (12, 14, #[.bool false, .slice (some ⟨g, k * 2, none⟩) (N - k) (cap - k)]) (by simp) v1 e1
    rw [if_neg (by simp [t0])] at k0
    rw [if_pos (hN' 14 (by simp))] at k1
    have nab : ga ≠ gb := fun e => hR.ne (11, 13, #[.bool false, .slice (some ⟨g, 0, none⟩) (k + 1) cap]) (by simp) (12, 14, #[.bool false, .slice (some ⟨g, k * 2, none⟩) (N - k) (cap - k)]) (by simp) (by simp) _ e0 (by rw [e1, e])
    have nn : ∀ j, j < 11 → G j = none := fun j hj => hN' j (by simp; omega)
    simp only [putV, dstAt, e0, e1, t0, nn 0 (by decide), nn 1 (by decide), nn 2 (by decide), nn 3 (by decide), nn 4 (by decide), nn 5 (by decide), nn 6 (by decide), nn 7 (by decide), nn 8 (by decide), nn 9 (by decide), nn 10 (by decide), List.drop_succ_cons, List.drop_zero, List.getElem?_cons_succ, List.getElem?_cons_zero, Option.bind_some]
    have c30 := k1.cell 0 _ rfl
    have c31 := k1.cell 1 _ rfl
    have f3 := has_fro k1
    obtain ⟨V2, hV2⟩ : ∃ V, (w3.setCell ⟨gb, 0, none⟩ (.bool false)).setCell ⟨gb, 1, none⟩ (.slice (some ⟨g, k * 2, none⟩) (N - k) (cap - k)) = V := ⟨_, rfl⟩
    have v0 : Has V2 ga #[.bool false, .slice (some ⟨g, 0, none⟩) (k + 1) cap] 24 := by rw [← hV2]; exact noff2 k0 (Ne.symm nab) _ _
    have v1 : Has V2 gb #[.bool false, .slice (some ⟨g, k * 2, none⟩) (N - k) (cap - k)] 24 := by rw [← hV2]; exact nset2 k1 _ _
    have b2 : Below V1.heap.size V1 V2 := by rw [← hV2]; exact (hb3.setCell l1 _).setCell l1 _
    have KP2 := Lib.hid (KP1.out.below b2 KP1.out.lt)
    have RW2 : Hid (Prow V2 g 0 ps) := Lib.hid (RW1.out.block (b2.block g (RW1.out.lt (by have := HN.out; omega))))
    have B2 := Lib.hid (B1.out.trans (b2.mono B1.out.size))
    have VA := Lib.hid v0
    have VB := Lib.hid v1
    have HV2 := Lib.hid hV2
    clear k0 k1 hb3 v0 v1 b2 hV2 l0 l1 hR hG hN' nn e0 e1 t0 nab KP1 RW1 B1
    go_upto_region 7 with fail
    rw [HV2.out]
    clear c30 c31 f3 HV2
    have hL7 : ps.length ≤ 700 := by have := HN.out; omega
    have hl2 : ¬ ps.length < 2 := by have := HN.out; omega
    have hkl : k < ps.length := by have := HN.out; omega
    obtain ⟨n, hn⟩ : ∃ n, lenN ps k = n := ⟨_, rfl⟩
    obtain ⟨L, hL⟩ : ∃ L, lengthL false ps = L := ⟨_, rfl⟩
    have hLn : lenN ps (ps.length - 1) = L := by rw [← hL, open_long hl2]
    obtain ⟨lb, hlb⟩ : ∃ x, L - n = x := ⟨_, rfl⟩
    have n0 : 0 ≤ n := hn ▸ (lenN_in ps k).1
    have n1' : n ≤ 1099511627776 := hn ▸ (lenN_in ps k).2
    have L0 : 0 ≤ L := hLn ▸ (lenN_in ps (ps.length - 1)).1
    have L1 : L ≤ 1099511627776 := hLn ▸ (lenN_in ps (ps.length - 1)).2
    have hsum : n + lb = L := by omega
    obtain ⟨xs, hxs⟩ : ∃ xs, cutL false ps n L = xs := ⟨_, rfl⟩
    have lx : xs.length ≤ 20 := by rw [← hxs]; have := cutL_length false ps n L; have := HN.out; omega
    have JP := join_part hL7 hl2 hkl
    rw [hn, hL, hxs, hLn, hlb] at JP
    have JX := Lib.hid JP.2
    have LA : Hid (∀ w', Prow w' g 0 ps → Calls Try.prog 14 #[.agg #[.bool false, .slice (some ⟨g, 0, none⟩) (k + 1) cap]] w' fun r w'' => r = .returned (.int .i64 n) ∧ Below w'.heap.size w' w'') := Lib.hid (fun w' hr => by have q := a_length false (psl_take (cap := cap) hr (n := k + 1) (by omega)); rw [take_long hL7 hkl, hn] at q; exact q)
    have LB : Hid (∀ w', Prow w' g 0 ps → Calls Try.prog 14 #[.agg #[.bool false, .slice (some ⟨g, k * 2, none⟩) (N - k) (cap - k)]] w' fun r w'' => r = .returned (.int .i64 lb) ∧ Below w'.heap.size w' w'') := Lib.hid (fun w' hr => by have q := a_length false (psl_drop (cap := cap - k) hr (n := N - k) (k := k) (by rw [HN.out])); rw [drop_long hL7 hkl, hLn, hn, hlb] at q; exact q)
    have LX : Hid (∀ w' v, Psl w' v xs → Calls Try.prog 14 #[.agg #[.bool false, v]] w' fun r w'' => r = .returned (.int .i64 lb) ∧ Below w'.heap.size w' w'') := Lib.hid (fun w' v hs => by have q := a_length false hs; rw [JP.1] at q; exact q)
    rw [hL] at LE
    have PT : Hid (∀ w', Below V.heap.size V w' → Calls Try.prog 15 #[.agg #[.bool false, .slice (some ⟨g, 0, none⟩) N cap], .int .i64 n, .int .i64 L] w' (Gives w' false xs)) := Lib.hid (fun w' hb => hxs ▸ a_part false n L (XS.out.below hb (Nat.le_refl _)) (by omega))
    have SI2 : Hid (∀ w', Calls Try.prog 16 #[.agg #[.bool false, .slice (some ⟨g, 0, none⟩) N cap]] w' fun r w'' => r = .returned (.int .i64 ((N : Int) - 1)) ∧ Below w'.heap.size w' w'') := Lib.hid (fun w' => by have q := SI.out w'; rw [sidesN_open h2, show ((N - 1 : Nat) : Int) = (N : Int) - 1 by omega] at q; exact q)
    have SK : Hid (sa ps k = pt ps k) := Lib.hid (small_plc SM.out hkl)
    clear JP hn hL hLn hxs hlb SI hL7 hl2
    have q0 := VA.out.cell 0 _ rfl
    have q1 := VA.out.cell 1 _ rfl
    go_wp2_with fail
    refine (LA.out _ RW2.out).mono ?_
    rintro e w4 ⟨rfl, hq4⟩
    have KP4 := Lib.hid (KP2.out.below hq4 KP2.out.lt)
    have VB4 := Lib.hid (VB.out.below hq4 VB.out.lt)
    have RW4 : Hid (Prow w4 g 0 ps) := Lib.hid (RW2.out.block (hq4.block g (RW2.out.lt (by have := HN.out; omega))))
    have B4 := Lib.hid (B2.out.trans (hq4.mono B2.out.size))
    clear hq4 q0 q1 KP2 VA VB RW2 B2
    go_upto_region 8 with fail
    refine wp_region_gen 6 [4, 5] [] [0, 0, 0, 0, 1, 1] (by kernel_rfl) (by kernel_rfl) (fun c a d v w h => by cases d <;> exact h) trivial (fun G w' => (∀ v, G 4 = some v → PolyO w4.heap.size false xs v w') ∧ Vars w4.heap.size 24 zY9 [(5, 100, #[])] G w') (fun G w w' h hb => ⟨fun v hv => (h.1 v hv).stay hb, h.2.stay hb⟩) ⟨fun v hv => (by cases hv), Vars.start⟩ ?_
    apply Exists.intro
    refine ⟨fun R hR hN => ?_, ?_, ?_⟩
    · have y0 := fun z => LaterR.read (R := R) KP4.out 0 _ rfl z
      have y1 := fun z => LaterR.read (R := R) KP4.out 1 _ rfl z
      have LZ := Lib.hid (fun z : LaterR w4 R => LE.out z.to (B4.out.trans (z.below.mono B4.out.size)))
      simp only [quietL, takeA]
      repeat (go_big_quiet_step (first | (go_at_call 14; exact LaterR.calls hR (LZ.out _))))
      exact wpQuiet_nil rfl
    · intro i oo hi ho
      have hi' : i = 4 ∨ i = 5 := by simpa using hi
      clear hi
      rcases hi' with rfl | rfl
      · cases ho
        intro G w' hG hGn hdep hb hR
        refine ⟨rfl, gives_none (by kernel_rfl) hGn ?_⟩
        unfold gives
        simp [go_sem]
        refine (PT.out w' (B4.out.trans (hb.mono B4.out.size))).mono ?_
        rintro r w'' ⟨l, rfl, hol, hbb⟩
        refine ⟨_, rfl, hb.trans (hbb.mono hb.size), fun v hv => ?_, ?_⟩
        · rw [updV_eq] at hv; cases hv; exact ⟨l, rfl, hol.lower hb.size⟩
        · have h5 := hR.2.stay hbb
          have e5 : updV G 4 (.agg #[.bool false, l]) 5 = G 5 := updV_ne G _ (by omega)
          have e6 : updV G 4 (.agg #[.bool false, l]) 100 = G 100 := updV_ne G _ (by omega)
          exact ⟨fun y hy v hv => by simp at hy; subst hy; simp only at hv ⊢; rw [e5] at hv; rw [e6]; exact h5.has (5, 100, #[]) (by simp) v hv, fun y hy y2 hy2 hne v _ _ => by simp at hy hy2; subst hy hy2; exact hne rfl, fun y hy hn => by simp at hy; subst hy; simp only at hn ⊢; rw [e5] at hn; rw [e6]; exact h5.late (5, 100, #[]) (by simp) hn⟩
      · cases ho
        intro G w' hG hGn hdep hb hR
        refine ⟨rfl, gives_none (by kernel_rfl) hGn ?_⟩
        unfold gives
        simp [go_sem]
        have bA : Below w'.heap.size w' (w'.alloc (.cells zY9 24)) := (Below.refl _ _).alloc (Nat.le_refl _) _
        refine ⟨hb.alloc hb.size _, fun v hv => ?_, hR.2.alloc (i := 5) (s := 100) (cs := #[]) rfl (by simp) (by intro y hy he; simp at hy; exact hy) hG hb.size⟩
        rw [updV_ne G _ (by omega)] at hv
        exact (hR.1 v hv).stay bA
    intro G w3' hb3 hR hG hN'
    obtain ⟨v4, e4⟩ := hG 4 (by simp)
    obtain ⟨v5, e5⟩ := hG 5 (by simp)
    obtain ⟨xv, rfl, ox⟩ := hR.1 v4 e4
    obtain ⟨gx, rfl, lgx, kx⟩ := hR.2.has (5, 100, #[]) (by simp) v5 e5
    rw [if_pos (hN' 100 (by simp))] at kx
    have nn : ∀ j, j < 4 → G j = none := fun j hj => hN' j (by simp; omega)
    simp only [putV, dstAt, e4, e5, nn 0 (by decide), nn 1 (by decide), nn 2 (by decide), nn 3 (by decide), List.drop_succ_cons, List.drop_zero, List.getElem?_cons_succ, List.getElem?_cons_zero, Option.bind_some]
    obtain ⟨ax, cx, hxv⟩ := ox.len
    obtain ⟨X, hX⟩ : ∃ X, xs.length = X := ⟨_, rfl⟩
    rw [hX] at hxv
    subst hxv
    have c30 := kx.cell 0 _ rfl
    have c31 := kx.cell 1 _ rfl
    have f3 := has_fro kx
    obtain ⟨U, hU⟩ : ∃ U, (w3'.setCell ⟨gx, 0, none⟩ (.bool false)).setCell ⟨gx, 1, none⟩ (.slice ax X cx) = U := ⟨_, rfl⟩
    have ku : Has U gx #[.bool false, .slice ax X cx] 24 := by rw [← hU]; exact nset2 kx _ _
    have bU : Below w4.heap.size w4 U := by rw [← hU]; exact (hb3.setCell lgx _).setCell lgx _
    have gU : w3'.grownBy U (some gx) := by rw [← hU]; exact grownBy_set (grownBy_set (World.grownBy.refl _ _) _ _) _ _
    have nx := ox.ne_has kx
    have SX : Psl U (.slice ax X cx) xs := (ox.sl (by omega)).grown gU (fun i hi e => by simp at hi; subst hi; exact nx e)
    have KU := Lib.hid ku
    have XSX := Lib.hid SX
    have KPU := Lib.hid (KP4.out.below bU KP4.out.lt)
    have VBU := Lib.hid (VB4.out.below bU VB4.out.lt)
    have RWU : Hid (Prow U g 0 ps) := Lib.hid (RW4.out.block (bU.block g (RW4.out.lt (by have := HN.out; omega))))
    have BU := Lib.hid (B4.out.trans (bU.mono B4.out.size))
    have HU := Lib.hid hU
    have HX := Lib.hid hX
    clear ku SX bU gU nx hU hX kx ox lgx hR hG hN' nn e4 e5 hb3 KP4 VB4 RW4 B4
    go_upto_region 9 with fail
    rw [HU.out]
    clear c30 c31 f3 HU
    have y0 := fun z => Later.read KPU.out 0 _ rfl z
    have y1 := fun z => Later.read KPU.out 1 _ rfl z
    have z0 := fun z => Later.read VBU.out 0 _ rfl z
    have z1 := fun z => Later.read VBU.out 1 _ rfl z
    have x0 := fun z => Later.read KU.out 0 _ rfl z
    have x1 := fun z => Later.read KU.out 1 _ rfl z
    have LBZ := Lib.hid (fun z : Later U => LB.out z.to (RWU.out.block (z.below.block g (RWU.out.lt (by have := HN.out; omega)))))
    have LEZ := Lib.hid (fun z : Later U => LE.out z.to (BU.out.trans (z.below.mono BU.out.size)))
    have LXZ := Lib.hid (fun z : Later U => LX.out z.to _ (XSX.out.later z))
    have BX : Hid (Below w.heap.size w U) := Lib.hid (by rw [HB.out]; exact BV.out.trans (BU.out.mono (by have := SV.out; omega)))
    have oX : (X : Int) ≤ 20 := by have := HX.out; omega
    by_cases hX0 : X = 0
    · subst hX0
      refine wp_region_class (C := fun w' => ∃ z : Later U, w' = z.to) (by kernel_rfl) (by kernel_rfl) ⟨⟨_, below_drew (Below.refl _ _)⟩, rfl⟩ ?_
      repeat (go_big_quiet_step (first | (go_at_call_of 14 cx; exact Later.calls (LXZ.out _)) | (go_at_call_of 14 k; exact Later.calls (LBZ.out _)) | (go_at_call_of 14 cap; exact Later.calls (LEZ.out _)) | (go_at_call 16; exact Later.calls (SI2.out _)) | (go_at_call 11; exact Later.calls (known9 _))))
      refine wpQuiet_nil ?_
      rintro _ ⟨z, rfl⟩
      have BZ : Hid (Below w.heap.size w z.to) := Lib.hid (BX.out.trans (z.below.mono BX.out.size))
      clear y0 y1 z0 z1 x0 x1
      go_wp2
      go_ret
      exact ⟨rfl, BZ.out⟩
    · obtain ⟨gl, o, e1, row⟩ : ∃ gl o, ax = some ⟨gl, o, none⟩ ∧ Prow U gl o xs := by
        obtain ⟨ax', cx', hv, _, hr⟩ := XSX.out
        simp at hv
        obtain ⟨rfl, _⟩ := hv
        exact hr (by have := HX.out; omega)
      subst e1
      have hP : pt xs 0 = pt ps k := by
        rcases JX.out with h | h
        · exact absurd (HX.out.symm.trans h) hX0
        · rw [h, SK.out]
      obtain ⟨P, hPP⟩ : ∃ P, pt ps k = P := ⟨_, rfl⟩
      rw [hPP] at hP
      have CX : Hid (∀ z : Later U, (z.to.cell? ⟨gl, o, none⟩ = some (.int .i64 P.x) ∧ z.to.cell? ⟨gl, o + 1, none⟩ = some (.int .i64 P.y)) ∧ (z.to.cell? ⟨g, k * 2, none⟩ = some (.int .i64 P.x) ∧ z.to.cell? ⟨g, k * 2 + 1, none⟩ = some (.int .i64 P.y))) := Lib.hid (fun z => by
        have r1 := row.block (z.below.block gl (row.lt (by have := HX.out; omega)))
        have r2 := RWU.out.block (z.below.block g (RWU.out.lt (by have := HN.out; omega)))
        have a0 := r1.c0 0 (by have := HX.out; omega)
        have a1 := r1.c1 0 (by have := HX.out; omega)
        have b0 := r2.c0 k (by have := HN.out; omega)
        have b1 := r2.c1 k (by have := HN.out; omega)
        rw [hP, Nat.zero_mul, Nat.add_zero] at a0 a1
        rw [hPP, Nat.zero_add] at b0 b1
        exact ⟨⟨a0, a1⟩, b0, b1⟩)
      have d0 := fun z => (CX.out z).1.1
      have d1 := fun z => (CX.out z).1.2
      have d2 := fun z => (CX.out z).2.1
      have d3 := fun z => (CX.out z).2.2
      have oX0 : ¬ (X : Int) = 0 := by omega
      have oX1 : (0 : Int) < X := by omega
      have oX2 : 0 < X := by omega
      have oX3 : ((X : Int) == 0) = false := by simpa using hX0
      have oX4 : decide ((X : Int) = 0) = false := by simpa using hX0
      clear row hP hPP
      refine wp_region_class (C := fun w' => ∃ z : Later U, w' = z.to) (by kernel_rfl) (by kernel_rfl) ⟨⟨_, below_drew (Below.refl _ _)⟩, rfl⟩ ?_
      repeat (go_big_quiet_step (first | (go_at_call_of 14 cx; exact Later.calls (LXZ.out _)) | (go_at_call_of 14 k; exact Later.calls (LBZ.out _)) | (go_at_call_of 14 cap; exact Later.calls (LEZ.out _)) | (go_at_call 16; exact Later.calls (SI2.out _)) | (go_at_call 11; exact Later.calls (known9 _))))
      refine wpQuiet_nil ?_
      rintro _ ⟨z, rfl⟩
      have BZ : Hid (Below w.heap.size w z.to) := Lib.hid (BX.out.trans (z.below.mono BX.out.size))
      clear y0 y1 z0 z1 x0 x1 d0 d1 d2 d3
      go_wp2
      go_ret
      exact ⟨rfl, BZ.out⟩

end Go.Proofs.Ytddcjdhlmlhgdaa

namespace Go.Proofs.Ytddcjdhlmlhgdaa.arcJoins
open Go.ChangeShapes Go.WideShapes Go.ChangeAt Go.RowKit

theorem post_below {H : Type} {enc : TypeId × Value → H} {P : Program} {f : Func} {s : ChangeSpec} {apart fresh handsOn : Bool} {W V : World} {args : Array Value} {v : Value} {ds gs : List (DataW H)} {before pa pv : List MemPlace}
    (hW : DataW.Whole enc P f.params.toList s.vars apart W args.toList ds gs before)
    (hres : ∀ (b : Nat) (sp : Nat → Bool) (hd : Bool), DataW.TrodAll enc P V b sp hd f.resultTypes.toList (v.resultList f.resultTypes.size) (s.fn H (ds ++ gs)).results [])
    (hargs : ∀ sp : Nat → Bool, (∀ p ∈ before, sp p.block = true) → DataW.TrodAll enc P V 0 sp true f.params.toList args.toList (s.fn H (ds ++ gs)).args pa)
    (hvars : ∀ sp : Nat → Bool, (∀ p ∈ before, sp p.block = true) → DataW.TrodVars enc P V sp s.vars (s.fn H (ds ++ gs)).vars pv)
    (hps : before = pa ++ pv) (hb : Below W.heap.size W V) : s.post enc P f apart fresh handsOn false W args v V := by
  have hl : ∀ p ∈ before, (fun b => decide (b < W.heap.size)) p.block = true := fun p hp => by simpa using hW.lt p hp
  refine ⟨ds, gs, before, [], pa, pv, hW, hres _ _ _, hargs _ hl, hvars _ hl, World.keptBut_mono (fun p hp => ⟨hp, ?_⟩) (hb.frame (· ∈ before)), fun h => by cases h⟩
  rw [hps, List.mem_append] at hp
  exact Or.inr hp

theorem own : ownKnob Try.prog.godebug = none := by kernel_rfl
theorem laid : laidOutB Try.prog = true := by kernel_rfl

set_option maxRecDepth 100000 in
theorem lifted (os : Os) (started : os.Started) (H : Type) (enc : TypeId × Value → H) :
    ReturnsInHanded {} Try.checked os 6 .any (Rows.arcJoinsSpec.pre6 enc Try.prog Try.f6 Rows.arcJoinsRow.domain false) (Rows.arcJoinsSpec.post enc Try.prog Try.f6 false true false false) := by
  refine returnsInHanded_of_change (C := Try.checked) own started (by kernel_rfl) Try.func6
    (ChangeSpec.witness6 (enc := enc) (C := Try.checked) false ⟨#[], #[.slice none 0 0, .int .i64 0], []⟩ 8 (by kernel_rfl) (by kernel_rfl) (by kernel_rfl) (by kernel_rfl)) ?_
  intro W base args ds gs before hval0 hW hcnd _
  have hval : ∀ (j : Nat) t v, Try.f6.params[j]? = some t → args[j]? = some v → Value.okWide Try.prog W .any base t v := hval0
  have hW' := hW
  obtain ⟨p, q, hA0, hV, rfl, hfz, hnd⟩ := hW
  have hA : DataW.TrodAll enc Try.prog W 0 (fun _ => true) true Try.f6.params.toList args.toList ds p := hA0
  rw [Try.params6] at hA hval
  obtain ⟨v0, vs0, d0, ds0, p0, q0, hargs, rfl, rfl, h0, r0⟩ := trodAll_cons hA
  obtain ⟨v1, vs1, d1, ds1, p1, q1, rfl, rfl, rfl, h1, r1⟩ := trodAll_cons r0
  obtain ⟨rfl, rfl, rfl⟩ := trodAll_nil r1
  obtain rfl : args = #[v0, v1] := by cases args; simp_all
  obtain ⟨rfl, rfl⟩ := trodVars_none hV
  obtain ⟨a0, w0⟩ := open_tape (hval 0 34 v0 rfl rfl) h0
  obtain ⟨a1, rfl, rfl, rfl, w1⟩ := open_int Try.underlying3 (hval 1 3 v1 rfl rfl) h1
  clear hA0 hval0
  simp only [List.append_nil] at hW'
  refine (arcJoins_walk (w := W) v0 a0 a1 w0).mono fun e W' ⟨he, hg⟩ => ?_
  subst he
  exact ⟨_, rfl, post_below (pv := []) hW' (fun _ _ _ => (trodAll_cons_mk (shut_bool Try.underlying4 _) trodAll_mk0)) (fun sp hsp => (trodAll_cons_mk (WideElems.Trod_stays laid (by kernel_rfl) (of_decide_eq_true (by kernel_rfl)) h0 (fun x hx => hg.same (by simpa using hW'.lt x (by simp [hx]))) (fun x hx => hsp x (by simp [hx]))) (trodAll_cons_mk (shut_int Try.underlying3 w1) trodAll_mk0))) (fun _ _ => rfl) (by simp) hg⟩

theorem over : Rows.arcJoinsRow.holds Try.pinned (OpenSpec.ofChange Rows.arcJoinsSpec) :=
  OpenClaim.holds_of_wide 6 Try.f6 rfl rfl rfl rfl rfl rfl rfl ⟨rfl, rfl, rfl, rfl, rfl⟩ rfl rfl rfl rfl rfl (by kernel_rfl) Try.func6 (by kernel_rfl)
    (of_decide_eq_true (by kernel_rfl)) (by unfold Func.isWrapper; first | (rw [if_pos (by decide +kernel)]; kernel_rfl) | (rw [if_neg (by decide +kernel)]; exact ⟨rfl, rfl⟩))
    (fun os started H enc _ => lifted os started H enc)

end Go.Proofs.Ytddcjdhlmlhgdaa.arcJoins
namespace Go.Proofs.Ytddcjdhlmlhgdaa
theorem arcJoins_holds : Rows.ArcJoinsSaid := arcJoins.over
#print axioms arcJoins_holds
end Go.Proofs.Ytddcjdhlmlhgdaa
