/- CoverWhole of the statements: whatever the numbers are, the call returns true and each argument reads as it did; no condition. -/
import Derived.Test.YtopepgifhnfbiaaCv1
import Derived.Test.YtopepgifhnfbiaaNMath
import Derived.Test.YtopepgifhnfbiaaPB
import Derived.Test.YtopepgifhnfbiaaCvA
import Derived.Test.YtopepgifhnfbiaaA
import Derived.Test.YtopepgifhnfbiaaMake
import Derived.Test.YtopepgifhnfbiaaQt
import Derived.Test.YtopepgifhnfbiaaApp
import Derived.Deep.AppendLies
import Derived.Test.YtopepgifhnfbiaaBx1
import Derived.Test.YtopepgifhnfbiaaK4
import Derived.Test.YtopepgifhnfbiaaVar
import Derived.Test.YtopepgifhnfbiaaXMath
import Derived.Test.YtopepgifhnfbiaaN4
import Derived.Test.YtopepgifhnfbiaaYO8
import Derived.Test.YtopepgifhnfbiaaAN
import Derived.BigRegion
import Derived.Deep.DeepCutAuto
import Derived.Test.YtopepgifhnfbiaaBxMath
import Derived.Test.YtopepgifhnfbiaaRI5
import Derived.Lib.SmallJoins
import Derived.ChangeSame
import Derived.Below
import Derived.Test.YtopepgifhnfbiaaRows
import Derived.WalkKit
import Derived.ProofKit
import Derived.OpenShut
namespace Go.Proofs.Ytopepgifhnfbiaa
open Go Go.RowKit
open M

/-- How much of a pixel polys cover. -/
def covY (rule x y : Int) (ys : List Po) : Nat := covL (fun a b => windY a b ys) rule x y
theorem windY_in {w : World} {v : Value} {ys : List Po} (h : Ysl w v ys) (x y : Int) : -8796093022208000 ≤ windY x y ys ∧ windY x y ys ≤ 8796093022208000 := by
  obtain ⟨ao, cap, rfl, hf, hr⟩ := h
  have h1 := windN_in (place x) (place y) (fun i => (po ys i).ps) (m := 8796093022208) (n := ys.length) (fun i hi => by
    obtain ⟨g, o, _, r⟩ := hr (by omega)
    exact (r.sl i hi).few)
  unfold windY
  omega
theorem nearB_no {x : Int} (h : nearB x = false) : x < -256 ∨ 256 < x := by
  rcases Int.lt_or_le x (-256) with h1 | h1
  · exact Or.inl h1
  · rcases Int.lt_or_le 256 x with h2 | h2
    · exact Or.inr h2
    · rw [nearB_iff.2 ⟨h1, h2⟩] at h; cases h

set_option maxRecDepth 100000 in
set_option maxHeartbeats 4000000 in
theorem r15_cover {v : Value} {ys : List Po} {w : World} (rule x y : Int) (h : Ysl w v ys) :
    Calls Try.prog 22 #[v, .int .i64 rule, .int .i64 x, .int .i64 y] w fun r w' => r = .returned (.int .i64 (covY rule x y ys : Nat)) ∧ Below w.heap.size w w' := by
  have HS := Lib.hid h
  clear h
  by_cases hx : nearB x = true
  · by_cases hy : nearB y = true
    · obtain ⟨x0, x1⟩ := nearB_iff.1 hx
      obtain ⟨y0, y1⟩ := nearB_iff.1 hy
      have EC : Hid (covY rule x y ys = covN (fun a b => windY a b ys) rule x y 16) := Lib.hid (by unfold covY covL; rw [hx, hy]; rfl)
      rw [EC.out]
      have WC := Lib.hid (fun (a b : Int) (w1 : World) (hb : Below w.heap.size w w1) => r15_wind a b (HS.out.below hb))
      have WI := Lib.hid (fun (a b : Int) => windY_in HS.out a b)
      obtain ⟨W, hW⟩ : ∃ W, (fun a b => windY a b ys) = W := ⟨_, rfl⟩
      have eW : ∀ a b, windY a b ys = W a b := fun a b => by rw [← hW]
      simp only [eW] at WC WI
      rw [hW]
      have XN := Lib.hid (show nearB x = true from hx)
      have YN := Lib.hid (show nearB y = true from hy)
      clear hW eW EC hx hy HS
      go_enter Try.func22, Try.ntmps22
      go_wp2_with (first | (go_at_call_of 43 x; refine (r15_near x _).mono ?_; rintro e w' ⟨rfl, rfl⟩; rw [XN.out]) | (go_at_call_of 43 y; refine (r15_near y _).mono ?_; rintro e w' ⟨rfl, rfl⟩; rw [YN.out]))
      go_loopw [9, 10] (fun s i wr => ∃ k : Nat, k ≤ 16 ∧ i = .int .i64 k ∧ s = .int .i64 (covN W rule x y k : Nat) ∧ Below w.heap.size w wr) (fun _ i _ => 16 - (intOf i).toNat)
      case atStart => exact ⟨0, by omega, rfl, rfl, Below.refl _ _⟩
      case round =>
        obtain ⟨k, hk, rfl, rfl, hb⟩ := hrel
        have HB := Lib.hid hb
        have hcn := covN_le W rule x y k
        have hst : covN W rule x y (k + 1) = covN W rule x y k + if countB rule (W (smpX x k) (smpY y k)) = true then 1 else 0 := rfl
        obtain ⟨n, hn⟩ : ∃ n, covN W rule x y k = n := ⟨_, rfl⟩
        rw [hn] at hcn hst ⊢
        have HN := Lib.hid hn
        clear hn
        by_cases hlt : k < 16
        · have o3 : (k : Int) < 16 := by omega
          obtain ⟨W0, hW0⟩ : ∃ z, W (smpX x k) (smpY y k) = z := ⟨_, rfl⟩
          have wi := WI.out (smpX x k) (smpY y k)
          have ST := Lib.hid hst
          have r0 : 0 ≤ Int.tmod (k : Int) 4 ∧ Int.tmod (k : Int) 4 ≤ 3 := by rw [Int.tmod_eq_emod_of_nonneg (by omega)]; omega
          have d0 : 0 ≤ Int.tdiv (k : Int) 4 ∧ Int.tdiv (k : Int) 4 ≤ 3 := by rw [Int.tdiv_eq_ediv_of_nonneg (by omega)]; omega
          have ex : x * 65536 + (2 * Int.tmod (k : Int) 4 + 1) * 65536 / 8 = smpX x k := by unfold smpX; rw [Int.tmod_eq_emod_of_nonneg (by omega)]; omega
          have ey : y * 65536 + (2 * Int.tdiv (k : Int) 4 + 1) * 65536 / 8 = smpY y k := by unfold smpY; rw [Int.tdiv_eq_ediv_of_nonneg (by omega)]; omega
          obtain ⟨p, hp⟩ : ∃ p, Int.tmod (k : Int) 4 = p := ⟨_, rfl⟩
          obtain ⟨q, hq⟩ : ∃ q, Int.tdiv (k : Int) 4 = q := ⟨_, rfl⟩
          rw [hp] at r0 ex
          rw [hq] at d0 ey
          have tp : Int.tdiv ((2 * p + 1) * 65536) 8 = (2 * p + 1) * 65536 / 8 := Int.tdiv_eq_ediv_of_nonneg (by omega)
          have tq : Int.tdiv ((2 * q + 1) * 65536) 8 = (2 * q + 1) * 65536 / 8 := Int.tdiv_eq_ediv_of_nonneg (by omega)
          obtain ⟨P, hP⟩ : ∃ z, (2 * p + 1) * 65536 / 8 = z := ⟨_, rfl⟩
          obtain ⟨Q, hQ⟩ : ∃ z, (2 * q + 1) * 65536 / 8 = z := ⟨_, rfl⟩
          have PQ : (0 ≤ P ∧ P ≤ 65536) ∧ 0 ≤ Q ∧ Q ≤ 65536 := by omega
          rw [hP] at tp ex
          rw [hQ] at tq ey
          have EX := Lib.hid ex
          have EY := Lib.hid ey
          rw [hW0] at wi
          have HW0 := Lib.hid hW0
          clear hP hQ ex ey hst hW0
          go_upto_region 7 with fail
          go_upto_region 8 with (go_at_call 14; rw [EX.out, EY.out]; refine (WC.out _ _ _ HB.out).mono ?_; rintro e w2 ⟨rfl, b2⟩; rw [HW0.out])
          have BW : Hid (Below w.heap.size w w2) := Lib.hid (HB.out.trans (b2.mono HB.out.size))
          have RT : Int.tmod W0 2 = 0 ↔ W0 % 2 = 0 := by
            rcases Int.lt_or_le W0 0 with h | h
            · have e1 := Int.neg_tmod W0 2
              have e2 := Int.tmod_eq_emod_of_nonneg (a := -W0) (b := 2) (by omega)
              omega
            · rw [Int.tmod_eq_emod_of_nonneg h]
          clear tp tq hp hq PQ r0 d0 hb b2
          by_cases h0 : rule = 0
          · subst h0
            by_cases h1 : W0 = 0
            · subst h1
              have E := ST.out; rw [HW0.out, if_neg (by unfold countB; simp [*]), Nat.add_zero] at E
              clear RT
              go_wp2
              go_roundw
              case rel => exact ⟨k + 1, by omega, by go_num, by first | (rw [E]; done) | (rw [E]; go_num), BW.out⟩
              case measure => simp [intOf]; omega
            · have h2 : ¬ W0 = 0 := h1
              have E := ST.out; rw [HW0.out, if_pos (by unfold countB; simp [*])] at E
              clear RT
              go_wp2
              go_roundw
              case rel => exact ⟨k + 1, by omega, by go_num, by first | (rw [E]; done) | (rw [E]; go_num), BW.out⟩
              case measure => simp [intOf]; omega
          · by_cases h1 : rule = 1
            · subst h1
              by_cases h2 : Int.tmod W0 2 = 0
              · have h3 : W0 % 2 = 0 := RT.1 h2
                have E := ST.out; rw [HW0.out, if_neg (by unfold countB; simp [*]), Nat.add_zero] at E
                clear RT
                go_wp2
                go_roundw
                case rel => exact ⟨k + 1, by omega, by go_num, by first | (rw [E]; done) | (rw [E]; go_num), BW.out⟩
                case measure => simp [intOf]; omega
              · have h3 : ¬ W0 % 2 = 0 := fun h => h2 (RT.2 h)
                have E := ST.out; rw [HW0.out, if_pos (by unfold countB; simp [*])] at E
                clear RT
                go_wp2
                go_roundw
                case rel => exact ⟨k + 1, by omega, by go_num, by first | (rw [E]; done) | (rw [E]; go_num), BW.out⟩
                case measure => simp [intOf]; omega
            · have E := ST.out; rw [HW0.out, if_neg (by unfold countB; simp [*]), Nat.add_zero] at E
              clear RT
              go_wp2
              go_roundw
              case rel => exact ⟨k + 1, by omega, by go_num, by first | (rw [E]; done) | (rw [E]; go_num), BW.out⟩
              case measure => simp [intOf]; omega
        · obtain rfl : k = 16 := by omega
          have o3 : ¬ ((16 : Nat) : Int) < 16 := by omega
          go_wp2
          go_ret
          exact ⟨by rw [HN.out]; rfl, hb⟩
    · have e : covY rule x y ys = 0 := by unfold covY covL; rw [Bool.eq_false_iff.2 hy]; simp
      rw [e]
      have XN := Lib.hid (show nearB x = true from hx)
      have YN := Lib.hid (Bool.eq_false_iff.2 hy)
      clear e hx hy
      go_enter Try.func22, Try.ntmps22
      go_wp2_with (first | (go_at_call_of 43 x; refine (r15_near x _).mono ?_; rintro e w' ⟨rfl, rfl⟩; rw [XN.out]) | (go_at_call_of 43 y; refine (r15_near y _).mono ?_; rintro e w' ⟨rfl, rfl⟩; rw [YN.out]))
      go_ret
      exact ⟨rfl, Below.refl _ _⟩
  · have e : covY rule x y ys = 0 := by unfold covY covL; rw [Bool.eq_false_iff.2 hx]; simp
    rw [e]
    have XN := Lib.hid (Bool.eq_false_iff.2 hx)
    clear e hx
    go_enter Try.func22, Try.ntmps22
    go_wp2_with (first | (go_at_call_of 43 x; refine (r15_near x _).mono ?_; rintro e w' ⟨rfl, rfl⟩; rw [XN.out]))
    go_ret
    exact ⟨rfl, Below.refl _ _⟩

end Go.Proofs.Ytopepgifhnfbiaa

namespace Go.Proofs.Ytopepgifhnfbiaa
namespace M

/-- Number i of a list. -/
def nm (ds : List Int) (i : Nat) : Int := ds.getD i 0
theorem nm_cons (d : Int) (ds : List Int) (i : Nat) : nm (d :: ds) (i + 1) = nm ds i := by simp [nm]
theorem nm_zero (d : Int) (ds : List Int) : nm (d :: ds) 0 = d := by simp [nm]
theorem nm_left {ds : List Int} {d : Int} {i : Nat} (h : i < ds.length) : nm (ds ++ [d]) i = nm ds i := by unfold nm; simp [List.getD, List.getElem?_append_left h]
theorem nm_last (ds : List Int) (d : Int) : nm (ds ++ [d]) ds.length = d := by unfold nm; simp [List.getD]
/-- Whether a dash, or a gap, may be so long. -/
def okN (d : Int) : Prop := 65536 ≤ d ∧ d ≤ 67108864
instance (d : Int) : Decidable (okN d) := by unfold okN; infer_instance
def okA (ds : List Int) : Prop := ∀ i, i < ds.length → okN (nm ds i)
instance (ds : List Int) : Decidable (okA ds) := by unfold okA; infer_instance
/-- Right. -/
def okD (ds : List Int) : Bool := decide (ds.length ≤ 8 ∧ okA ds)
theorem okD_many {ds : List Int} (h : 8 < ds.length) : okD ds = false := by unfold okD; rw [decide_eq_false]; omega
theorem okD_bad {ds : List Int} {i : Nat} (hi : i < ds.length) (h : ¬ okN (nm ds i)) : okD ds = false := by
  unfold okD
  rw [decide_eq_false]
  exact fun e => h (e.2 i hi)
theorem okD_yes {ds : List Int} (h8 : ds.length ≤ 8) (h : ∀ i, i < ds.length → okN (nm ds i)) : okD ds = true := by
  unfold okD
  rw [decide_eq_true]
  exact ⟨h8, h⟩
theorem okD_all {ds : List Int} (h : ∀ i, i < ds.length → okN (nm ds i)) : okD ds = decide ((ds.length : Int) ≤ 8) := by
  by_cases h8 : ds.length ≤ 8
  · rw [okD_yes h8 h, decide_eq_true]; omega
  · rw [okD_many (by omega), decide_eq_false]; omega
theorem okD_few {ds : List Int} (h : okD ds = true) : ds.length ≤ 8 ∧ okA ds := by
  unfold okD at h
  simpa using h

/-- Number i, gone through round and round. -/
def tn (ds : List Int) (i : Nat) : Int := nm ds (i % ds.length)
/-- Where dash or gap k begins. -/
def mk (ds : List Int) : Nat → Int
  | 0 => 0
  | k + 1 => mk ds k + tn ds k
theorem mk_zero (ds : List Int) : mk ds 0 = 0 := rfl
theorem mk_step (ds : List Int) (k : Nat) : mk ds (k + 1) = mk ds k + tn ds k := rfl
theorem tn_in {ds : List Int} (h : okD ds = true) (h0 : 0 < ds.length) (i : Nat) : 65536 ≤ tn ds i ∧ tn ds i ≤ 67108864 := (okD_few h).2 _ (Nat.mod_lt _ h0)
theorem mk_in {ds : List Int} (h : okD ds = true) (h0 : 0 < ds.length) : ∀ k : Nat, 0 ≤ mk ds k ∧ mk ds k ≤ k * 67108864
  | 0 => by simp [mk]
  | k + 1 => by
    have ih := mk_in h h0 k
    have t := tn_in h h0 k
    rw [mk_step]
    omega
theorem mk_up {ds : List Int} (h : okD ds = true) (h0 : 0 < ds.length) {i : Nat} : ∀ {j : Nat}, i ≤ j → mk ds i ≤ mk ds j
  | 0, hij => by
    obtain rfl : i = 0 := by omega
    exact Int.le_refl _
  | j + 1, hij => by
    by_cases e : i = j + 1
    · rw [e]; exact Int.le_refl _
    · have ih := mk_up h h0 (i := i) (j := j) (by omega)
      have t := tn_in h h0 j
      rw [mk_step]
      omega
theorem add_mk {ds : List Int} (h : okD ds = true) (h0 : 0 < ds.length) {k : Nat} (hk : k ≤ 200) : add (mk ds k) (tn ds k) = mk ds (k + 1) := by
  have a := mk_in h h0 k
  have t := tn_in h h0 k
  unfold add
  rw [hold_in (a := mk ds k) (by omega) (by omega), hold_in (a := tn ds k) (by omega) (by omega), hold_in (by omega) (by omega), mk_step]
theorem tn_mod {ds : List Int} (i : Nat) : Int.tmod (i : Int) (ds.length : Int) = ((i % ds.length : Nat) : Int) := by
  rw [Int.tmod_eq_emod_of_nonneg (by omega)]
  simp
/-- Dash n. -/
def dashP (c : Bool) (ps : List Pt) (ds : List Int) (n : Nat) : List Pt := cutL c ps (mk ds (2 * n)) (mk ds (2 * n + 1))
theorem dashP_length (c : Bool) (ps : List Pt) (ds : List Int) (n : Nat) : (dashP c ps ds n).length ≤ ps.length + 1 := cutL_length _ _ _ _
/-- The first n dashes. -/
def dashN (c : Bool) (ps : List Pt) (ds : List Int) : Nat → List (Bool × List Pt)
  | 0 => []
  | n + 1 => if mk ds (2 * n) < lengthL c ps ∧ 2 ≤ (dashP c ps ds n).length then dashN c ps ds n ++ [(false, dashP c ps ds n)] else dashN c ps ds n
theorem dashN_zero (c : Bool) (ps : List Pt) (ds : List Int) : dashN c ps ds 0 = [] := rfl
theorem dashN_yes {c : Bool} {ps : List Pt} {ds : List Int} {n : Nat} (h : mk ds (2 * n) < lengthL c ps) (h2 : 2 ≤ (dashP c ps ds n).length) : dashN c ps ds (n + 1) = dashN c ps ds n ++ [(false, dashP c ps ds n)] := if_pos ⟨h, h2⟩
theorem dashN_no {c : Bool} {ps : List Pt} {ds : List Int} {n : Nat} (h2 : ¬ 2 ≤ (dashP c ps ds n).length) : dashN c ps ds (n + 1) = dashN c ps ds n := if_neg fun h => h2 h.2
theorem dashN_off {c : Bool} {ps : List Pt} {ds : List Int} {n : Nat} (h : ¬ mk ds (2 * n) < lengthL c ps) : dashN c ps ds (n + 1) = dashN c ps ds n := if_neg fun e => h e.1
theorem dashN_length (c : Bool) (ps : List Pt) (ds : List Int) : ∀ n, (dashN c ps ds n).length ≤ n
  | 0 => by simp [dashN]
  | n + 1 => by
    have ih := dashN_length c ps ds n
    rw [dashN]
    split
    · simp; omega
    · omega
/-- From the first dash on that would begin at the line's end or behind it nothing comes. -/
theorem dashN_end {c : Bool} {ps : List Pt} {ds : List Int} (h : okD ds = true) (h0 : 0 < ds.length) {n : Nat} (hn : lengthL c ps ≤ mk ds (2 * n)) : ∀ {m : Nat}, n ≤ m → dashN c ps ds m = dashN c ps ds n
  | 0, hm => by
    obtain rfl : n = 0 := by omega
    rfl
  | m + 1, hm => by
    by_cases e : n = m + 1
    · rw [e]
    · have ih := dashN_end h h0 hn (m := m) (by omega)
      have u := mk_up h h0 (i := 2 * n) (j := 2 * m) (by omega)
      rw [dashN_off (by omega), ih]
/-- Of. -/
def dashL (c : Bool) (ps : List Pt) (ds : List Int) : List (Bool × List Pt) := if ds.length = 0 ∨ okD ds = false then [(c, ps)] else dashN c ps ds 64
theorem dashL_none {c : Bool} {ps : List Pt} {ds : List Int} (h : ds.length = 0) : dashL c ps ds = [(c, ps)] := if_pos (Or.inl h)
theorem dashL_bad {c : Bool} {ps : List Pt} {ds : List Int} (h : okD ds = false) : dashL c ps ds = [(c, ps)] := if_pos (Or.inr h)
theorem dashL_some {c : Bool} {ps : List Pt} {ds : List Int} (h0 : 0 < ds.length) (h : okD ds = true) : dashL c ps ds = dashN c ps ds 64 := if_neg fun e => by rcases e with e | e; omega; rw [h] at e; cases e
theorem dashL_length (c : Bool) (ps : List Pt) (ds : List Int) : (dashL c ps ds).length ≤ 64 := by
  unfold dashL
  split
  · simp
  · exact dashN_length _ _ _ _

end M
end Go.Proofs.Ytopepgifhnfbiaa

namespace Go.Proofs.Ytopepgifhnfbiaa
open Go Go.RowKit
open M

/-- The slice's value v holds just these numbers. -/
def Isl (w : World) (v : Value) (ds : List Int) : Prop := ∃ ao cap, v = .slice ao ds.length cap ∧ ds.length ≤ 17592186044416 ∧ (0 < ds.length → ∃ g o, ao = some ⟨g, o, none⟩ ∧ ∀ i, i < ds.length → w.cell? ⟨g, o + i, none⟩ = some (.int .i64 (nm ds i)))
theorem Isl.few {w : World} {v : Value} {ds : List Int} (h : Isl w v ds) : ds.length ≤ 17592186044416 := by
  obtain ⟨_, _, _, h, _⟩ := h
  exact h
theorem Isl.slice {w : World} {v : Value} {ds : List Int} (h : Isl w v ds) : ∃ ao cap, v = .slice ao ds.length cap := by
  obtain ⟨ao, cap, h, _⟩ := h
  exact ⟨ao, cap, h⟩
theorem Isl.blocks {w w' : World} {v : Value} {ds : List Int} (h : Isl w v ds) (hb : ∀ k, k < w.heap.size → v.ownBlock = some k → w'.heap[k]? = w.heap[k]?) : Isl w' v ds := by
  obtain ⟨ao, cap, rfl, hf, hr⟩ := h
  refine ⟨ao, cap, rfl, hf, fun h0 => ?_⟩
  obtain ⟨g, o, rfl, hr'⟩ := hr h0
  exact ⟨g, o, rfl, fun i hi => (World.cell?_of_block (a := ⟨g, _, _⟩) (hb g (World.block_lt_of_cell? w _ (hr' 0 h0)) rfl)).trans (hr' i hi)⟩
theorem Isl.below {w w' : World} {v : Value} {ds : List Int} (h : Isl w v ds) (hb : Below w.heap.size w w') : Isl w' v ds := h.blocks fun k hk _ => hb.block k hk
theorem Isl.alloc {w : World} {v : Value} {ds : List Int} (h : Isl w v ds) (o : Obj) : Isl (w.alloc o) v ds := h.blocks fun k hk _ => (MapKept.heap_alloc w o).2 k hk
theorem Isl.at {w : World} {ao : Option Addr} {N cap : Nat} {ds : List Int} (h : Isl w (.slice ao N cap) ds) (h0 : 0 < N) : ds.length = N ∧ ∃ g o, ao = some ⟨g, o, none⟩ ∧ ∀ i, i < N → w.cell? ⟨g, o + i, none⟩ = some (.int .i64 (nm ds i)) := by
  obtain ⟨ao', cap', e, hf, hr⟩ := h
  simp only [Value.slice.injEq] at e
  obtain ⟨rfl, rfl, rfl⟩ := e
  exact ⟨rfl, hr h0⟩
theorem isl_nil (w : World) (ao : Option Addr) (cap : Nat) : Isl w (.slice ao 0 cap) [] := ⟨ao, cap, rfl, by simp, fun h => by simp at h⟩
theorem isl_lit {w : World} {g n c : Nat} {ds : List Int} {cs : Array Value} {t : TypeId} (hn : ds.length = n) (hf : n ≤ 17592186044416) (h : Has w g cs t) (hc : cs.toList = ds.map (Value.int .i64)) : Isl w (.slice (some ⟨g, 0, none⟩) n c) ds := by
  subst hn
  refine ⟨_, c, rfl, hf, fun _ => ⟨g, 0, rfl, fun i hi => ?_⟩⟩
  rw [Nat.zero_add]
  refine h.cell i _ ?_
  have : cs.toList[i]? = some (.int .i64 (nm ds i)) := by rw [hc]; simp [nm, List.getD, hi]
  simpa using this

end Go.Proofs.Ytopepgifhnfbiaa

namespace Go.Proofs.Ytopepgifhnfbiaa
open Go Go.RowKit
open M

/-- What polys cover of the n pixels from x0 on. -/
def rowN (rule y x0 : Int) (ys : List Po) (n : Nat) : List Int := (List.range n).map fun (i : Nat) => ((covY rule (x0 + (i : Int)) y ys : Nat) : Int)
theorem rowN_length (rule y x0 : Int) (ys : List Po) (n : Nat) : (rowN rule y x0 ys n).length = n := by simp [rowN]
theorem rowN_at {rule y x0 : Int} {ys : List Po} {n i : Nat} (h : i < n) : nm (rowN rule y x0 ys n) i = (covY rule (x0 + (i : Int)) y ys : Nat) := by simp [rowN, nm, List.getD, h]
theorem rowN_succ (rule y x0 : Int) (ys : List Po) (n : Nat) : rowN rule y x0 ys (n + 1) = rowN rule y x0 ys n ++ [((covY rule (x0 + (n : Int)) y ys : Nat) : Int)] := by simp [rowN, List.range_succ]
/-- The row from x0 up to x1. -/
def rowL (rule y x0 x1 : Int) (ys : List Po) : List Int := if x0 < -256 ∨ 256 < x1 then [] else rowN rule y x0 ys (x1 - x0).toNat
theorem rowL_in {rule y x0 x1 : Int} {ys : List Po} (h : -256 ≤ x0) (h1 : x1 ≤ 256) : rowL rule y x0 x1 ys = rowN rule y x0 ys (x1 - x0).toNat := by unfold rowL; rw [if_neg (by omega)]
theorem rowL_none {rule y x0 x1 : Int} {ys : List Po} (h : x1 ≤ x0 ∨ x0 < -256 ∨ 256 < x1) : rowL rule y x0 x1 ys = [] := by
  unfold rowL
  by_cases h1 : x0 < -256 ∨ 256 < x1
  · rw [if_pos h1]
  · rw [if_neg h1, show (x1 - x0).toNat = 0 by omega]; rfl
theorem covY_le (rule x y : Int) (ys : List Po) : covY rule x y ys ≤ 16 := covL_le _ _ _ _

end Go.Proofs.Ytopepgifhnfbiaa

namespace Go.Proofs.Ytopepgifhnfbiaa
open Go Go.RowKit
open M

theorem near_small {x : Int} (h0 : -256 ≤ x) (h1 : x ≤ 256) : nearB x = true := nearB_iff.2 ⟨h0, h1⟩
theorem covY_near {rule x y : Int} {ys : List Po} (hx : nearB x = true) (hy : nearB y = true) : covY rule x y ys = covN (fun a b => windY a b ys) rule x y 16 := by unfold covY covL; rw [hx, hy]; rfl
/-- The same polys but for how often they go round. -/
theorem covY_cong {rule x y x' y' : Int} {ys zs : List Po} (hx : nearB x = nearB x') (hy : nearB y = nearB y') (h : nearB x = true → nearB y = true → ∀ i, i < 16 → countB rule (windY (smpX x i) (smpY y i) ys) = countB rule (windY (smpX x' i) (smpY y' i) zs)) : covY rule x y ys = covY rule x' y' zs := by
  unfold covY covL
  rw [← hx, ← hy]
  by_cases h1 : (nearB x && nearB y) = true
  · rw [if_pos h1, if_pos h1]
    rw [Bool.and_eq_true] at h1
    exact covN_cong fun i hi => h h1.1 h1.2 i hi
  · rw [if_neg h1, if_neg h1]
theorem rect_cov {x0 y0 x1 y1 px py rule m : Int} {ys : List Po} (b0 : -100 ≤ x0) (b1 : x0 ≤ x1) (b2 : x1 ≤ 100) (d0 : -100 ≤ y0) (d1 : y0 ≤ y1) (d2 : y1 ≤ 100) (p0 : -256 ≤ px) (p1 : px ≤ 256) (q0 : -256 ≤ py) (q1 : py ≤ 256)
    (hw : ∀ a b, windY a b ys = m * windP (place a) (place b) (rectP x0 y0 x1 y1)) :
    covY rule px py ys = if x0 ≤ px ∧ px < x1 ∧ y0 ≤ py ∧ py < y1 then (if countB rule m = true then 16 else 0) else 0 := by
  rw [covY_near (near_small p0 p1) (near_small q0 q1)]
  have key : ∀ i, i < 16 → windY (smpX px i) (smpY py i) ys = if x0 ≤ px ∧ px < x1 ∧ y0 ≤ py ∧ py < y1 then m else 0 := by
    intro i hi
    obtain ⟨a1, a2, -, -, a3, -⟩ := smp_in p0 p1 hi
    obtain ⟨-, -, c1, c2, -, c3⟩ := smp_in q0 q1 hi
    rw [hw, a3, c3, rect_wind b0 b1 b2 d0 d1 d2]
    by_cases h : x0 ≤ px ∧ px < x1 ∧ y0 ≤ py ∧ py < y1
    · rw [if_pos h, if_pos (by omega), Int.mul_one]
    · rw [if_neg h, if_neg (by omega), Int.mul_zero]
  by_cases h : x0 ≤ px ∧ px < x1 ∧ y0 ≤ py ∧ py < y1
  · rw [if_pos h]
    by_cases hc : countB rule m = true
    · rw [if_pos hc]
      exact covN_all fun i hi => by rw [key i hi, if_pos h]; exact hc
    · rw [if_neg hc]
      exact covN_no fun i hi => by rw [key i hi, if_pos h]; exact Bool.eq_false_iff.2 hc
  · rw [if_neg h]
    refine covN_no fun i hi => ?_
    rw [key i hi, if_neg h]
    unfold countB
    simp
theorem windY_one {a b : Int} {c : Bool} {l : Value} {ps : List Pt} : windY a b [⟨c, l, ps⟩] = windP (place a) (place b) ps := by
  show 0 + windP (place a) (place b) ps = _
  omega
theorem windY_two {a b : Int} {c d : Bool} {l k : Value} {ps qs : List Pt} : windY a b [⟨c, l, ps⟩, ⟨d, k, qs⟩] = windP (place a) (place b) ps + windP (place a) (place b) qs := by
  show 0 + windP (place a) (place b) ps + windP (place a) (place b) qs = _
  omega

end Go.Proofs.Ytopepgifhnfbiaa

namespace Go.Proofs.Ytopepgifhnfbiaa
open Go Go.RowKit
open M

theorem c_asked (x : Int) (w : World) : Calls Try.prog 28 #[.int .i64 x] w fun e w' => e = .returned (.bool (nearB x)) ∧ w = w' := by
  by_cases h1 : -256 ≤ x
  · by_cases h2 : x ≤ 256
    · have e : nearB x = true := nearB_iff.2 ⟨h1, h2⟩
      rw [e]
      go_enter Try.func28, Try.ntmps28
      go_wp2
      go_ret
      exact ⟨rfl, rfl⟩
    · have e : nearB x = false := by rw [Bool.eq_false_iff]; intro h; have := nearB_iff.1 h; omega
      rw [e]
      go_enter Try.func28, Try.ntmps28
      go_wp2
      go_ret
      exact ⟨rfl, rfl⟩
  · have e : nearB x = false := by rw [Bool.eq_false_iff]; intro h; have := nearB_iff.1 h; omega
    rw [e]
    go_enter Try.func28, Try.ntmps28
    go_wp2
    go_ret
    exact ⟨rfl, rfl⟩
theorem c_place {x c : Int} (x0 : -100000 ≤ x) (x1 : x ≤ 100000) (c0 : 0 ≤ c) (c1 : c ≤ 100000) (w : World) : Calls Try.prog 30 #[.int .i64 x, .int .i64 c] w fun e w' => e = .returned (.int .i64 (x * 65536 + c * 16384 + 8192)) ∧ w = w' := by
  go_enter Try.func30, Try.ntmps30
  go_wp2
  go_ret
  exact ⟨rfl, rfl⟩
theorem tmod_two (n : Int) : Int.tmod n 2 = 0 ↔ n % 2 = 0 := by
  rcases Int.lt_or_le n 0 with h | h
  · have e1 := Int.neg_tmod n 2
    have e2 := Int.tmod_eq_emod_of_nonneg (a := -n) (b := 2) (by omega)
    omega
  · rw [Int.tmod_eq_emod_of_nonneg h]
theorem c_within (rule n : Int) (w : World) : Calls Try.prog 29 #[.int .i64 rule, .int .i64 n] w fun e w' => e = .returned (.bool (countB rule n)) ∧ w = w' := by
  by_cases h0 : rule = 0
  · subst h0
    by_cases h1 : n = 0
    · have e : countB 0 n = false := by unfold countB; simp [h1]
      rw [e]
      subst h1
      go_enter Try.func29, Try.ntmps29
      go_wp2
      go_ret
      exact ⟨rfl, rfl⟩
    · have e : countB 0 n = true := by unfold countB; simp [h1]
      rw [e]
      go_enter Try.func29, Try.ntmps29
      go_wp2
      go_ret
      exact ⟨by simp [h1], rfl⟩
  · by_cases h1 : rule = 1
    · subst h1
      have RT := tmod_two n
      obtain ⟨m, hm⟩ : ∃ m, Int.tmod n 2 = m := ⟨_, rfl⟩
      rw [hm] at RT
      by_cases h2 : m = 0
      · have e : countB 1 n = false := by unfold countB; simp [RT.1 h2]
        rw [e]
        clear RT
        go_enter Try.func29, Try.ntmps29
        go_wp2
        go_ret
        exact ⟨rfl, rfl⟩
      · have e : countB 1 n = true := by unfold countB; have : ¬ n % 2 = 0 := fun h => h2 (RT.2 h); simp [this]
        rw [e]
        clear RT
        go_enter Try.func29, Try.ntmps29
        go_wp2
        go_ret
        exact ⟨by simp [h2], rfl⟩
    · have e : countB rule n = false := by unfold countB; simp [h0, h1]
      rw [e]
      go_enter Try.func29, Try.ntmps29
      go_wp2
      go_ret
      exact ⟨rfl, rfl⟩
set_option maxHeartbeats 1000000 in
theorem c_held (p : Pt) (w : World) :
    Calls Try.prog 45 #[.agg (pCells p)] w fun r w' => r = .returned (.agg (pCells (plc p))) ∧ Below w.heap.size w w' := by
  obtain ⟨x, y⟩ := p
  go_enter Try.func45, Try.ntmps45
  go_wp2
  refine wp_region_draws_tail 7 (by kernel_rfl) (by kernel_rfl) (by kernel_rfl) (by kernel_rfl) ?_
  simp only [List.take_succ_cons, List.take_zero, List.drop_succ_cons, List.drop_zero]
  repeat (go_big_quiet_step (first | (go_at_call 23; exact quiet1 (q_place _ _))))
  refine wpQuiet_nil ?_
  rintro _ ⟨nq, rfl⟩
  obtain ⟨w1, hw1⟩ : ∃ w1, w.drewN nq = w1 := ⟨_, rfl⟩
  have hs : w.heap.size = w1.heap.size := by rw [← hw1]; rfl
  have hb : Below w.heap.size w w1 := by rw [← hw1]; exact below_drewN (Below.refl _ _) _
  change wpList _ _ _ _ _ (((w.drewN nq).alloc _).alloc _)
  rw [hw1]
  have HB := Lib.hid hb
  clear hb hw1
  go_wp2
  refine bodyPost_ret (v := .agg #[.int .i64 (place x), .int .i64 (place y)]) (by simp [results, Try.results45, go_sem, hs]) rfl ⟨rfl, ?_⟩
  repeat (first | exact HB.out | refine Below.alloc ?_ (by first | (simp [hs]; done) | (simp [hs]; omega)) _)

/-- A side's cells. -/
abbrev dCells (s : Sd) : Array Value := #[.int .i64 s.1.x, .int .i64 s.1.y, .int .i64 s.2.x, .int .i64 s.2.y]
set_option maxHeartbeats 1000000 in
theorem c_way (s : Sd) (y : Int) (w : World) :
    Calls Try.prog 26 #[.agg (dCells s), .int .i64 y] w fun r w' => r = .returned (.int .i64 (wayP s.1 s.2 y)) ∧ Below w.heap.size w w' := by
  obtain ⟨⟨ax, ay⟩, bx, bY⟩ := s
  have HB := Lib.hid ((Below.refl w.heap.size w).alloc (Nat.le_refl _) (.cells #[.int .i64 ax, .int .i64 ay, .int .i64 bx, .int .i64 bY] 57))
  unfold wayP
  simp only
  by_cases h1 : ay ≤ y
  · by_cases h2 : y < bY
    · rw [if_pos ⟨h1, h2⟩]
      go_enter Try.func26, Try.ntmps26
      go_wp2
      go_ret
      exact ⟨rfl, HB.out⟩
    · rw [if_neg (by omega)]
      by_cases h3 : bY ≤ y
      · rw [if_neg (by omega)]
        go_enter Try.func26, Try.ntmps26
        go_wp2
        go_ret
        exact ⟨rfl, HB.out⟩
      · omega
  · rw [if_neg (by omega)]
    by_cases h3 : bY ≤ y
    · rw [if_pos (by omega)]
      go_enter Try.func26, Try.ntmps26
      go_wp2
      go_ret
      exact ⟨rfl, HB.out⟩
    · rw [if_neg (by omega)]
      go_enter Try.func26, Try.ntmps26
      go_wp2
      go_ret
      exact ⟨rfl, HB.out⟩
/-- A side whose numbers are held. -/
def SdOk (s : Sd) : Prop := ∀ p ∈ [s.1, s.2], -536870912 ≤ p.x ∧ p.x ≤ 536870912 ∧ -536870912 ≤ p.y ∧ p.y ≤ 536870912
theorem sdOk_plc (a b : Pt) : SdOk (plc a, plc b) := by
  intro p hp
  simp only [List.mem_cons, List.not_mem_nil, or_false] at hp
  rcases hp with rfl | rfl <;> exact ⟨place_lo _, place_hi _, place_lo _, place_hi _⟩
set_option maxHeartbeats 4000000 in
theorem c_beyond (s : Sd) (x y : Int) (hs : SdOk s) (hx : -536870912 ≤ x ∧ x ≤ 536870912) (hy : -536870912 ≤ y ∧ y ≤ 536870912) (w : World) :
    Calls Try.prog 25 #[.agg (dCells s), .int .i64 x, .int .i64 y] w fun r w' => r = .returned (.bool (bydP s.1 s.2 x y)) ∧ Below w.heap.size w w' := by
  obtain ⟨W, hW⟩ : ∃ W, w.alloc (.cells (dCells s) 57) = W := ⟨_, rfl⟩
  obtain ⟨B, hB⟩ : ∃ B, w.heap.size = B := ⟨_, rfl⟩
  have ha : Has W B (dCells s) 57 := by rw [← hW]; exact has_new hB
  have hb : Below w.heap.size w W := by rw [← hW]; exact (Below.refl _ _).alloc (Nat.le_refl _) _
  have WY := Lib.hid (fun w => c_way s y w)
  have wi := wayP_in s.1 s.2 y
  obtain ⟨⟨m1, m2⟩, m3, m4⟩ := side_in (a := s.1) (b := s.2) hs hx hy
  obtain ⟨a1, a2, a3, a4⟩ := hs s.1 (by simp)
  obtain ⟨b1, b2, b3, b4⟩ := hs s.2 (by simp)
  have EB : Hid (∀ W D, wayP s.1 s.2 y = W → sideW s.1 s.2 x y = D → bydP s.1 s.2 x y = ((decide (0 < W) && decide (0 < D)) || (decide (W < 0) && decide (D < 0)))) := Lib.hid (fun W D h1 h2 => by unfold bydP; rw [h1, h2])
  obtain ⟨V, hV⟩ : ∃ V, wayP s.1 s.2 y = V := ⟨_, rfl⟩
  rw [hV] at WY wi EB
  obtain ⟨⟨ax, ay⟩, bx, bY⟩ := s
  simp only [sideW] at m1 m2 m3 m4 a1 a2 a3 a4 b1 b2 b3 b4 EB
  obtain ⟨R, hR⟩ : ∃ R, bydP (⟨ax, ay⟩ : Pt) ⟨bx, bY⟩ x y = R := ⟨_, rfl⟩
  rw [hR] at EB
  simp only
  rw [hR]
  have HW := Lib.hid hW
  have HB := Lib.hid hb
  have HA := Lib.hid ha
  obtain ⟨x1, x2⟩ := hx
  obtain ⟨y1, y2⟩ := hy
  clear hs hW hb ha hV hR
  go_enter Try.func25, Try.ntmps25
  go_upto_region 1 with fail
  rw [HW.out]
  clear hB
  have c0 := HA.out.cell 0 _ rfl
  have c1 := HA.out.cell 1 _ rfl
  have c2 := HA.out.cell 2 _ rfl
  have c3 := HA.out.cell 3 _ rfl
  go_upto_region 2 with fail
  obtain ⟨D, hD⟩ : ∃ D, (bx - ax) * (y - ay) - (x - ax) * (bY - ay) = D := ⟨_, rfl⟩
  have EC := Lib.hid (EB.out V D rfl hD)
  rw [hD]
  have HA2 : Hid (∀ w', Below W.heap.size W w' → Has w' B #[.int .i64 ax, .int .i64 ay, .int .i64 bx, .int .i64 bY] 57) := Lib.hid (fun w' hb => HA.out.below hb HA.out.lt)
  clear hD m1 m2 m3 m4 a1 a2 a3 a4 b1 b2 b3 b4 x1 x2 y1 y2
  by_cases hv : 0 < V
  · go_wp2_with fail
    refine (WY.out _).mono ?_
    rintro r w1 ⟨rfl, hq⟩
    have Q1 := Lib.hid (HB.out.trans (hq.mono HB.out.size))
    have hc := HA2.out _ hq
    have d0 := hc.cell 0 _ rfl
    have d1 := hc.cell 1 _ rfl
    have d2 := hc.cell 2 _ rfl
    have d3 := hc.cell 3 _ rfl
    clear c0 c1 c2 c3 hq
    by_cases hd : 0 < D
    · have E : R = true := by rw [EC.out]; simp [hv, hd]
      subst E
      clear hc
      go_wp2
      go_ret
      exact ⟨rfl, Q1.out⟩
    · have E : R = false := by rw [EC.out]; simp; omega
      subst E
      have hn : ¬ V < 0 := by omega
      have HC := Lib.hid hc
      clear hc
      go_wp2_with fail
      refine (WY.out _).mono ?_
      rintro r w2 ⟨rfl, hq⟩
      have Q2 := Lib.hid (Q1.out.trans (hq.mono Q1.out.size))
      clear hq d0 d1 d2 d3
      go_wp2
      go_ret
      exact ⟨by rw [decide_eq_false (show ¬ 0 < D by omega)]; rfl, Q2.out⟩
  · go_wp2_with fail
    refine (WY.out _).mono ?_
    rintro r w1 ⟨rfl, hq⟩
    have Q1 := Lib.hid (HB.out.trans (hq.mono HB.out.size))
    have hc := HA2.out _ hq
    have d0 := hc.cell 0 _ rfl
    have d1 := hc.cell 1 _ rfl
    have d2 := hc.cell 2 _ rfl
    have d3 := hc.cell 3 _ rfl
    clear c0 c1 c2 c3 hq hc
    go_wp2_with fail
    refine (WY.out _).mono ?_
    rintro r w2 ⟨rfl, hq⟩
    have Q2 := Lib.hid (Q1.out.trans (hq.mono Q1.out.size))
    clear hq d0 d1 d2 d3
    by_cases hn : V < 0
    · by_cases hd : D < 0
      · have E : R = true := by rw [EC.out]; simp [hn, hd]
        subst E
        go_wp2
        go_ret
        exact ⟨rfl, Q2.out⟩
      · have E : R = false := by rw [EC.out]; simp; omega
        subst E
        go_wp2
        go_ret
        exact ⟨by rw [decide_eq_false (show ¬ D < 0 by omega)]; rfl, Q2.out⟩
    · have E : R = false := by rw [EC.out]; simp; omega
      subst E
      go_wp2
      go_ret
      exact ⟨rfl, Q2.out⟩

end Go.Proofs.Ytopepgifhnfbiaa

namespace Go.Proofs.Ytopepgifhnfbiaa
open Go Go.RowKit
open M

/-- Side i of a list. -/
def sd (ls : List Sd) (i : Nat) : Sd := ls.getD i default
theorem sd_cons (l : Sd) (ls : List Sd) (i : Nat) : sd (l :: ls) (i + 1) = sd ls i := by simp [sd]
theorem sd_zero (l : Sd) (ls : List Sd) : sd (l :: ls) 0 = l := by simp [sd]
theorem sd_mem {ls : List Sd} {i : Nat} (h : i < ls.length) : sd ls i ∈ ls := by
  unfold sd
  rw [List.getD_eq_getElem?_getD, List.getElem?_eq_getElem h]
  exact List.getElem_mem h
def dl (l : Sd) : List Value := [.int .i64 l.1.x, .int .i64 l.1.y, .int .i64 l.2.x, .int .i64 l.2.y]
def dls (ls : List Sd) : List Value := ls.flatMap dl
theorem dls_cons (l : Sd) (ls : List Sd) : dls (l :: ls) = dl l ++ dls ls := by simp [dls]
theorem dls_append (ls ms : List Sd) : dls (ls ++ ms) = dls ls ++ dls ms := by simp [dls]
theorem dl_length (l : Sd) : (dl l).length = 4 := rfl
theorem dls_length (ls : List Sd) : (dls ls).length = ls.length * 4 := by
  induction ls with
  | nil => rfl
  | cons l ls ih => rw [dls_cons, List.length_append, ih, dl_length, List.length_cons]; omega
theorem dls_at {ls : List Sd} {i j : Nat} (hi : i < ls.length) (hj : j < 4) : (dls ls)[i * 4 + j]? = (dl (sd ls i))[j]? := by
  induction ls generalizing i with
  | nil => simp at hi
  | cons l ls ih =>
    rw [dls_cons]
    cases i with
    | zero => rw [sd_zero, Nat.zero_mul, Nat.zero_add, List.getElem?_append_left (by rw [dl_length]; exact hj)]
    | succ i =>
      rw [sd_cons, List.getElem?_append_right (by rw [dl_length]; omega)]
      rw [← ih (by simpa using hi)]
      congr 1
      rw [dl_length]; omega
theorem ones_dl (l : Sd) : ∀ u ∈ dl l, u.oneCell' = true := by
  intro u hu
  simp [dl] at hu
  rcases hu with rfl | rfl | rfl | rfl <;> rfl
/-- A row of sides lies in block g from cell o on. -/
structure Drow (w : World) (g o : Nat) (ls : List Sd) : Prop where
  c0 : ∀ i, i < ls.length → w.cell? ⟨g, o + i * 4, none⟩ = some (.int .i64 (sd ls i).1.x)
  c1 : ∀ i, i < ls.length → w.cell? ⟨g, o + i * 4 + 1, none⟩ = some (.int .i64 (sd ls i).1.y)
  c2 : ∀ i, i < ls.length → w.cell? ⟨g, o + i * 4 + 2, none⟩ = some (.int .i64 (sd ls i).2.x)
  c3 : ∀ i, i < ls.length → w.cell? ⟨g, o + i * 4 + 3, none⟩ = some (.int .i64 (sd ls i).2.y)
theorem Drow.lt {w : World} {g o : Nat} {ls : List Sd} (h : Drow w g o ls) (hn : 0 < ls.length) : g < w.heap.size := World.block_lt_of_cell? w _ (h.c0 0 hn)
theorem drow_of {w : World} {g o : Nat} {ls : List Sd} (h : ∀ j u, (dls ls)[j]? = some u → w.cell? ⟨g, o + j, none⟩ = some u) : Drow w g o ls := by
  have key : ∀ i j u, i < ls.length → j < 4 → (dl (sd ls i))[j]? = some u → w.cell? ⟨g, o + i * 4 + j, none⟩ = some u := by
    intro i j u hi hj hu
    rw [Nat.add_assoc]
    exact h _ _ ((dls_at hi hj).trans hu)
  exact ⟨fun i hi => key i 0 _ hi (by omega) rfl, fun i hi => key i 1 _ hi (by omega) rfl, fun i hi => key i 2 _ hi (by omega) rfl, fun i hi => key i 3 _ hi (by omega) rfl⟩
theorem Drow.block {w w' : World} {g o : Nat} {ls : List Sd} (h : Drow w g o ls) (hb : w'.heap[g]? = w.heap[g]?) : Drow w' g o ls := by
  have key : ∀ j, w'.cell? ⟨g, j, none⟩ = w.cell? ⟨g, j, none⟩ := fun j => World.cell?_of_block (a := ⟨g, _, _⟩) hb
  exact ⟨fun i hi => (key _).trans (h.c0 i hi), fun i hi => (key _).trans (h.c1 i hi), fun i hi => (key _).trans (h.c2 i hi), fun i hi => (key _).trans (h.c3 i hi)⟩
/-- The slice's value v holds just these sides. -/
def Dsl (w : World) (v : Value) (ls : List Sd) : Prop := ∃ ao cap, v = .slice ao ls.length cap ∧ (0 < ls.length → ∃ g o, ao = some ⟨g, o, none⟩ ∧ Drow w g o ls)
theorem Dsl.below {w w' : World} {v : Value} {ls : List Sd} (h : Dsl w v ls) (hb : Below w.heap.size w w') : Dsl w' v ls := by
  obtain ⟨ao, cap, rfl, hr⟩ := h
  refine ⟨ao, cap, rfl, fun h0 => ?_⟩
  obtain ⟨g, o, e, hr'⟩ := hr h0
  exact ⟨g, o, e, hr'.block (hb.block g (hr'.lt h0))⟩
theorem Dsl.row {w : World} {ao : Option Addr} {N cap : Nat} {ls : List Sd} (h : Dsl w (.slice ao N cap) ls) (hn : 0 < N) : ∃ g o, ao = some ⟨g, o, none⟩ ∧ Drow w g o ls ∧ ls.length = N := by
  obtain ⟨ao', cap', hv, hr⟩ := h
  simp at hv
  obtain ⟨rfl, hl, rfl⟩ := hv
  obtain ⟨g, o, e, hr⟩ := hr (by omega)
  exact ⟨g, o, e, hr, hl.symm⟩
theorem Dsl.slice {w : World} {v : Value} {ls : List Sd} (h : Dsl w v ls) : ∃ ao cap, v = .slice ao ls.length cap := by
  obtain ⟨ao, cap, e, _⟩ := h
  exact ⟨ao, cap, e⟩
/-- The value v of a call's own holds just these sides, in its own blocks from 'base' on. -/
def Down (t : TypeId) (w : World) (base : Nat) (v : Value) (ls : List Sd) : Prop := w.ownsRow base t 4 v ls.length (dls ls)
theorem Down.sl {t : TypeId} {w : World} {base : Nat} {v : Value} {ls : List Sd} (h : Down t w base v ls) : Dsl w v ls := by
  rcases h.2 with ⟨rfl, hn⟩ | ⟨g, cap, cur, rfl, _, hg, _, _, _, ht⟩
  · exact ⟨none, 0, by rw [hn], fun h0 => by omega⟩
  · refine ⟨_, cap, rfl, fun _ => ⟨g, 0, rfl, drow_of fun j u hu => ?_⟩⟩
    rw [Nat.zero_add, cell_of_row w g j cur _ _ hg]
    rw [← ht, List.getElem?_take] at hu
    split at hu
    · simpa using hu
    · cases hu
theorem Down.nil (t : TypeId) (w : World) (base : Nat) : Down t w base (.slice none 0 0) [] := World.ownsRow_nil _ _ _ _
theorem Down.below {t : TypeId} {w w' : World} {B B' : Nat} {v : Value} {ls : List Sd} (h : Down t w B v ls) (hb : Below B' w w') (hB : w.heap.size ≤ B') : Down t w' B v ls :=
  World.ownsRow.kept h (grownBy_below hb hB) (by by_cases e : v.ownBlock = none; exact Or.inl e; exact Or.inr e)
theorem Down.base {t : TypeId} {w : World} {B : Nat} {v : Value} {ls : List Sd} (h : Down t w B v ls) (k : Nat) (hk : v.ownBlock = some k) : B ≤ k ∧ k < w.heap.size := World.ownsRow.lt h k hk
theorem Down.lower {t : TypeId} {w : World} {B B' : Nat} {v : Value} {ls : List Sd} (h : Down t w B v ls) (hB : B' ≤ B) : Down t w B' v ls := by
  refine ⟨h.1, ?_⟩
  rcases h.2 with h | ⟨g, cap, cur, a, b, r⟩
  · exact Or.inl h
  · exact Or.inr ⟨g, cap, cur, a, by omega, r⟩
theorem Down.len {t : TypeId} {w : World} {B : Nat} {v : Value} {ls : List Sd} (h : Down t w B v ls) : ∃ ao cap, v = .slice ao ls.length cap := by
  rcases h.2 with ⟨rfl, hn⟩ | ⟨g, cap, cur, rfl, _⟩
  · exact ⟨none, 0, by rw [hn]⟩
  · exact ⟨_, cap, rfl⟩
/-- What is told of a type of sides. -/
def SdInfo (t st : TypeId) : Prop := (Try.prog.info? t).map (fun i => (i.zero, i.size, i.bytes)) = some (some (.agg #[.int .i64 0, .int .i64 0, .int .i64 0, .int .i64 0]), 4, 32) ∧ Try.prog.underlying st = some (.slice t)
theorem wpList_append_sd {W : World} {base : Nat} {t st : TypeId} (hI : SdInfo t st) {l : Value} {ls : List Sd} {ops : Array Oper} {rest : List Oper} {op : Oper} {a : Act} {Q : Exit → Act → World → Prop} (hgd : op.guard = none) (s x : Operand)
    (hop : op.op = .call { callee := .builtin .append, args := #[s, x], argTypes := #[st, st] }) (N : Nat) (hN : ls.length = N) (hs : a.eval s = l) (H : Nat) (hx : a.eval x = .slice (some ⟨H, 0, none⟩) 1 1)
    (y : Sd) (cs : Array Value) (hn : Has W H cs t) (hcs : cs.toList = dl y) (hT : Down t W base l ls) (hf : N ≤ 8000000) (hb : base ≤ W.heap.size)
    (h : ∀ g' cap' w', Down t w' base (.slice (some ⟨g', 0, none⟩) (N + 1) cap') (ls ++ [y]) → W.grownBy w' l.ownBlock → (l.ownBlock = some g' ∨ g' = W.heap.size) → wpList Try.prog ops Q rest (a.put op.dst (.slice (some ⟨g', 0, none⟩) (N + 1) cap')) w') : wpList Try.prog ops Q (op :: rest) a W := by
  obtain ⟨i0, hi, hz0, hz1, hz2⟩ := info_parts hI.1
  subst hN
  refine wpList_plain hgd fun _ hK => wp_append_lies W s x st hop base t i0 _ 4 32 hI.2 hi hz0 hz1 hz2 rfl (by decide) l ls.length (dls ls) hs hT ⟨H, 0, none⟩ 1 1 (dl y) hx rfl ?_ (ones_dl y) (by decide) (by unfold maxLen; omega) (by omega) hb _ rfl ?_
  · intro j u hu
    rw [Addr.add_lit, Nat.zero_add]
    refine hn.cell j u ?_
    rw [← hcs] at hu
    simpa using hu
  intro g' cap' w' hown' hg hw _
  refine hK _ _ (h g' cap' w' ?_ hg hw)
  unfold Down
  rw [List.length_append, dls_append]
  have e : dls [y] = dl y := by simp [dls]
  rw [e]
  exact hown'
/-- The value v is a list of this side alone, in a block of the call's own. -/
def OneD (t : TypeId) (base : Nat) (l : Sd) (v : Value) (w : World) : Prop := ∃ g, v = .slice (some ⟨g, 0, none⟩) 1 1 ∧ base ≤ g ∧ Has w g (dCells l) t
theorem OneD.stay {t : TypeId} {base : Nat} {l : Sd} {v : Value} {w w' : World} (h : OneD t base l v w) (hb : Below w.heap.size w w') : OneD t base l v w' := by
  obtain ⟨g, e, l, k⟩ := h
  exact ⟨g, e, l, k.below hb k.lt⟩
/-- A list of just these sides, of the call's own, is returned. -/
def GivesD (t : TypeId) (w : World) (ls : List Sd) (e : Ending) (w' : World) : Prop := ∃ u, e = .returned u ∧ Down t w' w.heap.size u ls ∧ Below w.heap.size w w'

end Go.Proofs.Ytopepgifhnfbiaa

namespace Go.Proofs.Ytopepgifhnfbiaa
open Go Go.RowKit
open M

def I64 (a : Int) : Prop := -9223372036854775808 ≤ a ∧ a ≤ 9223372036854775807
theorem b_down (a : Int) (w : World) : Calls Try.prog 57 #[.int .i64 a] w fun r w' => r = .returned (.int .i64 (dn a)) ∧ w = w' := by
  unfold dn
  go_enter Try.func57, Try.ntmps57
  go_wp2
  go_ret
  exact ⟨rfl, rfl⟩
theorem b_up (a : Int) (h : I64 a) (w : World) : Calls Try.prog 58 #[.int .i64 a] w fun r w' => r = .returned (.int .i64 (up a)) ∧ w = w' := by
  have bd := dn_bd h.1 h.2
  have ha := and_one a
  obtain ⟨m, hm⟩ : ∃ m, bits .and .i64 a 65535 = m := ⟨_, rfl⟩
  obtain ⟨d, hd⟩ : ∃ d, dn a = d := ⟨_, rfl⟩
  have DN := Lib.hid (fun w => b_down a w)
  rw [hd] at DN bd
  rw [hm] at ha
  by_cases h0 : m = 0
  · have HU : Hid (up a = d) := Lib.hid (by rw [← hd]; unfold up dn; rw [if_pos (by omega)])
    clear ha hd h
    go_enter Try.func58, Try.ntmps58
    go_wp2_with fail
    refine (DN.out _).mono ?_
    rintro r w1 ⟨rfl, rfl⟩
    go_wp2
    go_ret
    exact ⟨by rw [HU.out]; rfl, rfl⟩
  · have HU : Hid (up a = d + 1) := Lib.hid (by rw [← hd]; unfold up dn; rw [if_neg (by omega)])
    have b1 : -140737488355328 ≤ d := bd.1
    have b2 : d ≤ 140737488355327 := bd.2
    clear ha hd h bd
    go_enter Try.func58, Try.ntmps58
    go_wp2_with fail
    refine (DN.out _).mono ?_
    rintro r w1 ⟨rfl, rfl⟩
    go_wp2
    go_ret
    exact ⟨by rw [HU.out]; rfl, rfl⟩
end Go.Proofs.Ytopepgifhnfbiaa

namespace Go.Proofs.Ytopepgifhnfbiaa
open Go Go.RowKit

section
variable {L : List Oper} {mk : List Nat} {o : Oper} {p : Nat} {G : Nat → Option Value} {e : Act}
/-- Operation o's guard is no made value. -/
def guardB (L : List Oper) (mk : List Nat) (o : Oper) : Bool := match o.guard with | none => true | some (g, _) => (match dstAt L g with | some d => mk.all fun j => dstAt L j != some d | none => true)
theorem wanted_put (h : guardB L mk o = true) (hGn : ∀ k, k ∉ mk → G k = none) (hw : Region.wanted o (yielded L.toArray e.tmps) = true) : Region.wanted o (yielded L.toArray (putV (dstAt L) G p e).tmps) = true := by
  unfold Region.wanted at hw ⊢
  unfold guardB at h
  cases hg : o.guard with
  | none => rfl
  | some gb =>
    obtain ⟨g, b⟩ := gb
    rw [hg] at h hw
    simp only at h hw ⊢
    have key : yielded L.toArray (putV (dstAt L) G p e).tmps g = yielded L.toArray e.tmps g := by
      unfold yielded
      have ed : (L.toArray[g]?).bind (·.dst) = dstAt L g := by unfold dstAt; simp
      rw [ed]
      cases hd : dstAt L g with
      | none => rfl
      | some d =>
        rw [hd] at h
        simp only at h
        have q : (putV (dstAt L) G p e).tmps[d]? = e.tmps[d]? := putV_at e p fun k hk hkn he => by
          have hkm : k ∈ mk := by
            apply Classical.byContradiction
            intro hn
            exact hkn (hGn k hn)
          have := List.all_eq_true.1 h k hkm
          rw [he] at this
          simp at this
        simp only [Option.bind_some, q]
    rw [key]
    exact hw
end

end Go.Proofs.Ytopepgifhnfbiaa

namespace Go.Proofs.Ytopepgifhnfbiaa
open Go Go.RowKit
open M

/-- A poly's part is stored into a block of the call's own. -/
theorem part_put {w V w3 : World} {r : Nat} {l : Value} {ps : List Pt} {cs : Array Value} (hb : Below w.heap.size w V) (hl : w.heap.size ≤ r) (hr : Has V r cs 31) (hs : cs.size = 2) (ho : Pown w3 V.heap.size l ps) (hb3 : Below V.heap.size V w3) :
    Gives w false ps (.returned (.agg #[.bool false, l])) ((w3.setCell ⟨r, 0, none⟩ (.bool false)).setCell ⟨r, 1, none⟩ l) ∧ Has ((w3.setCell ⟨r, 0, none⟩ (.bool false)).setCell ⟨r, 1, none⟩ l) r #[.bool false, l] 31 := by
  have k3 := hr.below hb3 hr.lt
  refine ⟨⟨l, rfl, (ho.lower hb.size).kept (grownBy_set (grownBy_set (World.grownBy.refl _ _) _ _) _ _) (fun k hk e => by simp at hk; have := (ho.base k e).1; have := hr.lt; omega), ((hb.trans (hb3.mono hb.size)).setCell hl _).setCell hl _⟩, ?_⟩
  have := has_set (has_set k3 0 (.bool false)) 1 l
  match cs, hs with
  | ⟨[x, y]⟩, _ => simpa using this

end Go.Proofs.Ytopepgifhnfbiaa

namespace Go.Proofs.Ytopepgifhnfbiaa
open Go Go.RowKit
open M

/-- A list of just these polys is returned. -/
def GivesL (w : World) (L : List (Bool × List Pt)) (e : Ending) (w' : World) : Prop := ∃ v zs, e = .returned v ∧ Ysl w' v zs ∧ zs.map bareY = L ∧ Below w.heap.size w w'
theorem Ysl.slice {w : World} {v : Value} {ys : List Po} (h : Ysl w v ys) : ∃ ao cap, v = .slice ao ys.length cap := by
  obtain ⟨ao, cap, e, _⟩ := h
  exact ⟨ao, cap, e⟩
theorem GivesL.on {w w1 w2 : World} {L : List (Bool × List Pt)} {e : Ending} (h : GivesL w1 L e w2) (hb : Below w.heap.size w w1) : GivesL w L e w2 := by
  obtain ⟨v, zs, he, hy, hz, hq⟩ := h
  exact ⟨v, zs, he, hy, hz, hb.trans (hq.mono hb.size)⟩
/-- The value v is a list of just these polys. -/
def LR (L : List (Bool × List Pt)) (v : Value) (w : World) : Prop := ∃ zs, Ysl w v zs ∧ zs.map bareY = L
theorem LR.stay {L : List (Bool × List Pt)} {v : Value} {w w' : World} (h : LR L v w) (hb : Below w.heap.size w w') : LR L v w' := by
  obtain ⟨zs, hy, hz⟩ := h
  exact ⟨zs, hy.below hb, hz⟩
theorem bares_of {zs : List Po} {N : Nat} {f : Nat → Bool × List Pt} (hl : zs.length = N) (h : ∀ j, j < N → bareY (po zs j) = f j) : zs.map bareY = (List.range N).map f := by
  apply List.ext_getElem?
  intro i
  by_cases hi : i < N
  · have := h i hi
    unfold po at this
    rw [List.getD_eq_getElem?_getD, List.getElem?_eq_getElem (by omega)] at this
    simp [hi, hl]
    simpa using this
  · rw [List.getElem?_eq_none (by simp; omega), List.getElem?_eq_none (by simp; omega)]
theorem grownBy_drew {a b : World} {r : Option Nat} (h : a.grownBy b r) : a.grownBy b.drew r := ⟨h.os, h.tape, h.output, h.size, h.block⟩
theorem Yfill.copied {w1 wr V : World} {gs N n : Nat} {f : Nat → Bool × List Pt} {zs : List Po} (h : Yfill w1 gs N f n zs wr) (hn : n < N) {c : Bool} {v : Value} {ps : List Pt} (hf : f n = (c, ps)) (hv : Psl V v ps) (hne : v.ownBlock ≠ some gs)
    (hk : ∀ k, k < wr.heap.size → k ≠ gs → V.heap[k]? = wr.heap[k]?) (hh : Has V gs (((yls zs).set (n * 2) (.bool c)).set (n * 2 + 1) v).toArray 31) (hb : Below w1.heap.size w1 V) : Yfill w1 gs N f (n + 1) (zs.set n ⟨c, v, ps⟩) V := by
  refine ⟨by rw [List.length_set]; exact h.len, ?_, fun j hj => ?_, hb, h.lo⟩
  · rw [yls_set (by rw [h.len]; exact hn)]
    exact hh
  · by_cases e : n = j
    · subst e
      rw [po_set_eq (by rw [h.len]; exact hn)]
      exact ⟨hf.symm, hv, hne⟩
    · rw [po_set_ne e]
      obtain ⟨a, b, c'⟩ := h.told j (by omega)
      exact ⟨a, b.blocks (fun k hkk e => hk k hkk (fun e2 => c' (by rw [e, e2]))), c'⟩

theorem gives_append {P : Program} {o : Oper} {e : Act} {w : World} {K : Value → World → Prop} (s x : Operand) (t : TypeId) (ho : o.op = .call { callee := .builtin .append, args := #[s, x], argTypes := #[t, t] })
    {v u : Value} (hs : e.eval s = v) (hx : e.eval x = u) {v' : Value} {w' : World} (hr : (Builtin.append_ #[t, t] o.type #[v, u]).run P w = .ok v' w') (h : K v' w') : gives P o e w K := by
  unfold gives execOp
  simp only [ho, resolve, invoke, builtin, Sem.run_bind, Sem.run_pure, Result.andThen_ok, List.map_toArray, List.map_cons, List.map_nil, hs, hx, hr]
  exact h
/-- A list of no places, in a block of the call's own, still bare where c says so. -/
def NoP (base : Nat) (c : Prop) (v : Value) (w : World) : Prop := ∃ g, v = .slice (some ⟨g, 0, none⟩) 0 0 ∧ base ≤ g ∧ g < w.heap.size ∧ (c → Has w g #[] 28)
theorem NoP.stay {base : Nat} {c : Prop} {v : Value} {w w' : World} (h : NoP base c v w) (hb : Below w.heap.size w w') : NoP base c v w' := by
  obtain ⟨g, e, l, s, k⟩ := h
  exact ⟨g, e, l, Nat.lt_of_lt_of_le s hb.size, fun hc => (k hc).below hb (k hc).lt⟩
/-- All places of a list appended to a list of none: what lies where. -/
theorem append_all {w : World} {B g : Nat} {ps : List Pt} {ao : Option Addr} {M cap : Nat} (hk : Has w g #[] 28) (hg : B ≤ g) (hs : Psl w (.slice ao M cap) ps) (hM : ps.length = M) (ty : TypeId) :
    ∃ v' w', (Builtin.append_ #[29, 29] ty #[.slice (some ⟨g, 0, none⟩) 0 0, .slice ao M cap]).run Try.prog w = .ok v' w' ∧ Pown w' B v' ps ∧ w.grownBy w' (some g) := by
  obtain ⟨i0, hi, hz0, hz1, hz2⟩ := info_parts Try.infoPt
  have hlt := hk.lt
  have ho : Pown w B (.slice (some ⟨g, 0, none⟩) 0 0) [] := ⟨rfl, Or.inr ⟨g, 0, #[], rfl, hg, hk, by simp, by simp, by simp, by simp [pls]⟩⟩
  have hf := hs.few
  by_cases h0 : M = 0
  · subst h0
    obtain rfl : ps = [] := List.eq_nil_of_length_eq_zero hM
    exact ⟨_, w, run_append_noth w _ ty _ i0 Try.underlying29 hi _ 0 0 (Nat.le_refl _) ao cap, ho, World.grownBy.refl _ _⟩
  · obtain ⟨ao', cap', hv, _, hrow⟩ := hs
    obtain ⟨gs, o, rfl, row⟩ := hrow (by omega)
    simp only [Value.slice.injEq] at hv
    obtain ⟨rfl, _, _⟩ := hv
    obtain ⟨g', cap2, w', hr, h2, h3, _, _⟩ := run_append_lies (P := Try.prog) w 29 ty B 28 i0 _ 2 16 Try.underlying29 hi hz0 hz1 hz2 rfl (by decide) (.slice (some ⟨g, 0, none⟩) 0 0) 0 [] ho ⟨gs, o, none⟩ M cap (pls ps) (by rw [pls_length, hM]) (fun j u hu => by rw [Addr.add_lit]; exact row.at j u hu) (ones_pls ps) (by omega) (by unfold maxLen; omega) (by omega) (by omega) _ rfl
    refine ⟨_, w', hr, ?_, h3⟩
    unfold Pown
    rw [hM]
    simpa using h2

end Go.Proofs.Ytopepgifhnfbiaa

namespace Go.Proofs.Ytopepgifhnfbiaa
open Go Go.RowKit
open M

/-- The places of the first n polys. -/
def ptsN (ys : List Po) : Nat → List Pt
  | 0 => []
  | n + 1 => ptsN ys n ++ (po ys n).ps
def lsP (e : Option (Pt × Pt)) : Pt := match e with | none => ⟨0, 0⟩ | some (a, _) => a
def gsP (e : Option (Pt × Pt)) : Pt := match e with | none => ⟨0, 0⟩ | some (_, b) => b
def smP (e : Option (Pt × Pt)) : Bool := match e with | none => false | some _ => true
theorem ends1_smP (e : Option (Pt × Pt)) (p : Pt) : smP (ends1 e p) = true := by rcases e with _ | ⟨a, b⟩ <;> rfl
theorem has_set_ne {w : World} {g k : Nat} {cs : Array Value} {t : TypeId} (h : Has w g cs t) (hne : g ≠ k) (j : Nat) (u : Value) : Has (w.setCell ⟨k, j, none⟩ u) g cs t := has_grown h (grownBy_set (World.grownBy.refl _ _) _ _) hne
/-- What the program holds of the places so far. -/
structure EV (w0 : World) (g : Nat) (e : Option (Pt × Pt)) (wr : World) : Prop where
  k1 : Has wr g (pCells (lsP e)) 28
  k2 : Has wr (g + 1) (pCells (gsP e)) 28
  below : Below w0.heap.size w0 wr
  lo : w0.heap.size ≤ g
theorem EV.later {w0 wr w' : World} {g : Nat} {e : Option (Pt × Pt)} (h : EV w0 g e wr) (hb : Below wr.heap.size wr w') : EV w0 g e w' :=
  ⟨h.k1.below hb h.k1.lt, h.k2.below hb h.k2.lt, h.below.trans (hb.mono h.below.size), h.lo⟩
theorem EV.put {w0 wr : World} {g : Nat} {e : Option (Pt × Pt)} (h : EV w0 g e wr) (e' : Option (Pt × Pt)) :
    EV w0 g e' ((((wr.setCell ⟨g, 0, none⟩ (.int .i64 (lsP e').x)).setCell ⟨g, 1, none⟩ (.int .i64 (lsP e').y)).setCell ⟨g + 1, 0, none⟩ (.int .i64 (gsP e').x)).setCell ⟨g + 1, 1, none⟩ (.int .i64 (gsP e').y)) := by
  have hl := h.lo
  refine ⟨?_, ?_, ((((h.below.setCell (show w0.heap.size ≤ g from hl) _).setCell (show w0.heap.size ≤ g from hl) _).setCell (show w0.heap.size ≤ g + 1 by omega) _).setCell (show w0.heap.size ≤ g + 1 by omega) _), hl⟩
  · have := has_set (has_set h.k1 0 (.int .i64 (lsP e').x)) 1 (.int .i64 (lsP e').y)
    refine has_set_ne (has_set_ne ?_ (by omega) _ _) (by omega) _ _
    simpa using this
  · have h1 : Has ((wr.setCell ⟨g, 0, none⟩ (.int .i64 (lsP e').x)).setCell ⟨g, 1, none⟩ (.int .i64 (lsP e').y)) (g + 1) (pCells (gsP e)) 28 := has_set_ne (has_set_ne h.k2 (by omega) _ _) (by omega) _ _
    have := has_set (has_set h1 0 (.int .i64 (gsP e').x)) 1 (.int .i64 (gsP e').y)
    simpa using this

def preP (e : Option (Pt × Pt)) (p : Pt) : Pt × Pt := match e with | none => (p, p) | some q => q
theorem ends1_pre (e : Option (Pt × Pt)) (p a b : Pt) (h : preP e p = (a, b)) : ends1 e p = some (⟨minI a.x p.x, minI a.y p.y⟩, ⟨maxI b.x p.x, maxI b.y p.y⟩) := by
  rcases e with _ | ⟨c, d⟩
  · simp only [preP, Prod.mk.injEq] at h
    obtain ⟨rfl, rfl⟩ := h
    simp [ends1, minI, maxI]
  · simp only [preP, Prod.mk.injEq] at h
    obtain ⟨rfl, rfl⟩ := h
    rfl
theorem take_pt {ps : List Pt} {k : Nat} (h : k < ps.length) : ps.take (k + 1) = ps.take k ++ [pt ps k] := by
  rw [List.take_succ_eq_append_getElem h]
  unfold pt
  simp [List.getD, h]
set_option maxHeartbeats 4000000 in
theorem b_ends {v : Value} {ys : List Po} {w : World} (h : Ysl w v ys) :
    Calls Try.prog 56 #[v] w fun r w' => r = .returned (.tuple #[.agg (pCells (lsP (endsP (ptsN ys ys.length)))), .agg (pCells (gsP (endsP (ptsN ys ys.length)))), .bool (smP (endsP (ptsN ys ys.length)))]) ∧ Below w.heap.size w w' := by
  obtain ⟨W, hW⟩ : ∃ W, (w.alloc (.cells #[.int .i64 0, .int .i64 0] 28)).alloc (.cells #[.int .i64 0, .int .i64 0] 28) = W := ⟨_, rfl⟩
  obtain ⟨ha, hr, hb0⟩ := has_old hW
  obtain ⟨B, hB⟩ : ∃ B, w.heap.size = B := ⟨_, rfl⟩
  rw [hB] at ha hr
  have E0 : Hid (EV w B none W) := Lib.hid ⟨ha, hr, hb0, by omega⟩
  obtain ⟨N, hN⟩ : ∃ N, ys.length = N := ⟨_, rfl⟩
  obtain ⟨ao, cap, ev⟩ : ∃ ao cap, v = .slice ao N cap := by obtain ⟨ao, cap, e, _⟩ := h; rw [hN] at e; exact ⟨_, _, e⟩
  subst ev
  rw [hN]
  have HS := Lib.hid h
  have HW := Lib.hid hW
  have hN1 : N ≤ 1000 := by obtain ⟨_, _, _, hf, _⟩ := h; omega
  have HN1 := Lib.hid hN1
  clear h ha hr hb0 hW hN hN1
  go_enter Try.func56, Try.ntmps56
  go_upto_region 1 with fail
  rw [HW.out]
  clear hB
  go_wp2_with fail
  go_loopw [11, 4] (fun i s wr => ∃ n : Nat, n ≤ N ∧ i = .int .i64 n ∧ s = .bool (smP (endsP (ptsN ys n))) ∧ EV w B (endsP (ptsN ys n)) wr) (fun i _ _ => N - (intOf i).toNat)
  case atStart => exact ⟨0, by omega, rfl, rfl, E0.out⟩
  case round =>
    clear E0
    obtain ⟨n, hn, rfl, rfl, hk⟩ := hrel
    have o0 : (N : Int) ≤ 1000 := by have := HN1.out; omega
    have HK := Lib.hid hk
    by_cases hlt : n < N
    · obtain ⟨g, o, e1, r0, l0⟩ := HS.out.row (by omega)
      subst e1
      have hb := hk.below
      have r := r0.below hb (by omega)
      have hsl := r0.sl n (by omega)
      obtain ⟨y, hy⟩ : ∃ y, po ys n = y := ⟨_, rfl⟩
      have c0 := r.c0 n (by omega)
      have c1 := r.c1 n (by omega)
      have HPN : Hid (ptsN ys (n + 1) = ptsN ys n ++ y.ps) := Lib.hid (by rw [← hy]; rfl)
      rw [hy] at c0 c1 hsl
      obtain ⟨c, vy, ps⟩ := y
      simp only at c0 c1 hsl HPN
      obtain ⟨K, hK⟩ : ∃ K, ps.length = K := ⟨_, rfl⟩
      obtain ⟨aoy, capy, evy⟩ : ∃ ao cap, vy = .slice ao K cap := by obtain ⟨ao, cap, hv, _⟩ := hsl; rw [hK] at hv; exact ⟨_, _, hv⟩
      subst evy
      obtain ⟨V, hV⟩ : ∃ V, wr.alloc (.cells #[.bool c, .slice aoy K capy] 31) = V := ⟨_, rfl⟩
      obtain ⟨gp, hgp⟩ : ∃ g, wr.heap.size = g := ⟨_, rfl⟩
      have bV : Below wr.heap.size wr V := by rw [← hV]; exact (Below.refl _ _).alloc (Nat.le_refl _) _
      have kp : Has V gp #[.bool c, .slice aoy K capy] 31 := by rw [← hV]; exact has_new hgp
      have KV := Lib.hid (HK.out.later bV)
      have SV := Lib.hid hsl
      have HV := Lib.hid hV
      have KPX := Lib.hid kp
      have HKL := Lib.hid hK
      obtain ⟨Q, hQ⟩ : ∃ Q, ptsN ys n = Q := ⟨_, rfl⟩
      rw [hQ] at KV HPN
      have HQ := Lib.hid hQ
      have o3 : (n : Int) < N := by omega
      have o4 : n < N := hlt
      clear r r0 l0 hy hb hk hsl bV hV kp hK hQ
      go_upto_region 4 with fail
      rw [HV.out]
      clear hgp c0 c1
      have x0 := KPX.out.cell 0 _ rfl
      have x1 := KPX.out.cell 1 _ rfl
      go_wp2_with fail
      clear x0 x1
      go_loopw [18, 4] (fun i s wk => ∃ k : Nat, k ≤ K ∧ i = .int .i64 k ∧ s = .bool (smP (endsP (Q ++ ps.take k))) ∧ EV w B (endsP (Q ++ ps.take k)) wk) (fun i _ _ => K - (intOf i).toNat)
      case atStart =>
        have e : Q ++ ps.take 0 = Q := by simp
        exact ⟨0, by omega, rfl, by rw [e, ← HQ.out], by rw [e]; exact KV.out⟩
      case round =>
        obtain ⟨k, hk, rfl, rfl, hE⟩ := hrel
        have HE := Lib.hid hE
        by_cases hkl : k < K
        · obtain ⟨gq, oq, eq, rp, -⟩ := (SV.out.below hE.below (Nat.le_refl _)).row (by omega)
          subst eq
          obtain ⟨E, hEe⟩ : ∃ E, endsP (Q ++ ps.take k) = E := ⟨_, rfl⟩
          have HNX : Hid (endsP (Q ++ ps.take (k + 1)) = ends1 E (pt ps k)) := Lib.hid (by rw [take_pt (by rw [HKL.out]; exact hkl), ← List.append_assoc, endsP_snoc, hEe])
          have c0 := rp.c0 k (by rw [HKL.out]; exact hkl)
          have c1 := rp.c1 k (by rw [HKL.out]; exact hkl)
          obtain ⟨q, hq⟩ : ∃ q, pt ps k = q := ⟨_, rfl⟩
          rw [hq] at c0 c1 HNX
          obtain ⟨px, py⟩ := q
          simp only at c0 c1
          obtain ⟨ga, hga⟩ : ∃ g, wr.heap.size = g := ⟨_, rfl⟩
          obtain ⟨V2, hV2⟩ : ∃ V, wr.alloc (.cells #[.int .i64 px, .int .i64 py] 28) = V := ⟨_, rfl⟩
          have bV2 : Below wr.heap.size wr V2 := by rw [← hV2]; exact (Below.refl _ _).alloc (Nat.le_refl _) _
          have kq : Has V2 ga #[.int .i64 px, .int .i64 py] 28 := by rw [← hV2]; exact has_new hga
          have hlt1 : B + 1 < ga := by rw [← hga]; exact hE.k2.lt
          rw [hEe] at hE HE
          have HE2 := Lib.hid (HE.out.later bV2)
          have KQ := Lib.hid kq
          have HV2 := Lib.hid hV2
          have HEe := Lib.hid hEe
          have HLT := Lib.hid hlt1
          have o5 : (k : Int) < K := by omega
          have o6 : (K : Int) ≤ 8796093022208 := by have := SV.out.few; have := HKL.out; omega
          clear hE HE hq bV2 kq hV2 hEe rp hlt1
          go_upto_region 7 with fail
          rw [HV2.out]
          clear hga c0 c1
          obtain ⟨sm, hsm⟩ : ∃ s, smP (endsP (Q ++ ps.take k)) = s := ⟨_, rfl⟩
          rw [hsm]
          have HSM := Lib.hid hsm
          clear hsm
          go_upto_if 23 with fail
          go_cut [4] (fun s wx => s = .bool true ∧ ∃ a b : Pt, preP E ⟨px, py⟩ = (a, b) ∧ EV w B (some (a, b)) wx ∧ Has wx ga #[.int .i64 px, .int .i64 py] 28)
          case first =>
            have a0 := KQ.out.cell 0 _ rfl
            have a1 := KQ.out.cell 1 _ rfl
            rcases E with _ | ⟨a, b⟩
            · obtain rfl : sm = false := by rw [← HSM.out, HEe.out]; rfl
              have hk1 := HE2.out.k1
              have hk2 := HE2.out.k2
              have p0 : V2.cell? ⟨B, 0, none⟩ = some (.int .i64 0) := hk1.cell 0 _ rfl
              have p1 : V2.cell? ⟨B, 1, none⟩ = some (.int .i64 0) := hk1.cell 1 _ rfl
              have q0 : V2.cell? ⟨B + 1, 0, none⟩ = some (.int .i64 0) := hk2.cell 0 _ rfl
              have q1 : V2.cell? ⟨B + 1, 1, none⟩ = some (.int .i64 0) := hk2.cell 1 _ rfl
              have fz := has_fro hk1
              have fz2 := has_fro hk2
              have R0 := Lib.hid (HE2.out.put (some (⟨px, py⟩, ⟨px, py⟩)))
              have n1 : ga ≠ B := by have := HLT.out; omega
              have n2 : ga ≠ B + 1 := by have := HLT.out; omega
              clear hk1 hk2
              go_upto_region 8 with fail
              go_region
              go_wp2
              go_meet
              exact ⟨rfl, ⟨px, py⟩, ⟨px, py⟩, rfl, R0.out.later (below_drew (Below.refl _ _)), has_set_ne (has_set_ne (has_set_ne (has_set_ne KQ.out n1 _ _) n1 _ _) n2 _ _) n2 _ _⟩
            · obtain rfl : sm = true := by rw [← HSM.out, HEe.out]; rfl
              go_wp2
              go_meet
              exact ⟨rfl, a, b, rfl, HE2.out, KQ.out⟩
          case rest =>
            obtain ⟨rfl, a, b, hab, hE, hq⟩ := hcut
            rename World => X
            have HE3 := Lib.hid hE
            have n1 : ga ≠ B := by have := HLT.out; omega
            have n2 : ga ≠ B + 1 := by have := HLT.out; omega
            have e1 := ends1_pre E ⟨px, py⟩ a b hab
            obtain ⟨ax, ay⟩ := a
            obtain ⟨bx, by'⟩ := b
            obtain ⟨m0, hm0⟩ : ∃ m, (if px < ax then px else ax) = m := ⟨_, rfl⟩
            obtain ⟨m1, hm1⟩ : ∃ m, (if py < ay then py else ay) = m := ⟨_, rfl⟩
            obtain ⟨m2, hm2⟩ : ∃ m, (if bx < px then px else bx) = m := ⟨_, rfl⟩
            obtain ⟨m3, hm3⟩ : ∃ m, (if by' < py then py else by') = m := ⟨_, rfl⟩
            have e2 : ends1 E ⟨px, py⟩ = some (⟨m0, m1⟩, ⟨m2, m3⟩) := by rw [e1, ← hm0, ← hm1, ← hm2, ← hm3]; rfl
            have HE4 := Lib.hid (hE.put (some (⟨m0, m1⟩, ⟨m2, m3⟩)))
            have hn0 : min ax px = m0 := by rw [← hm0]; split <;> omega
            have hn1 : min ay py = m1 := by rw [← hm1]; split <;> omega
            have hn2 : max bx px = m2 := by rw [← hm2]; split <;> omega
            have hn3 : max by' py = m3 := by rw [← hm3]; split <;> omega
            clear hm0 hm1 hm2 hm3
            have HN4 := Lib.hid (HNX.out.trans e2)
            have a0 := hq.cell 0 _ rfl
            have a1 := hq.cell 1 _ rfl
            have p0 : X.cell? ⟨B, 0, none⟩ = some (.int .i64 ax) := hE.k1.cell 0 _ rfl
            have p1 : X.cell? ⟨B, 1, none⟩ = some (.int .i64 ay) := hE.k1.cell 1 _ rfl
            have q0 : X.cell? ⟨B + 1, 0, none⟩ = some (.int .i64 bx) := hE.k2.cell 0 _ rfl
            have q1 : X.cell? ⟨B + 1, 1, none⟩ = some (.int .i64 by') := hE.k2.cell 1 _ rfl
            have fz := has_fro hE.k1
            have fz2 := has_fro hE.k2
            clear hE hq e1 e2 hab
            go_wp2_with fail
            go_roundw
            case rel => exact ⟨k + 1, by omega, by go_num, by rw [HN4.out]; rfl, by rw [HN4.out]; exact HE4.out⟩
            case measure => simp [intOf]; omega
        · obtain rfl : k = K := by omega
          have o5 : ¬ (k : Int) < k := by omega
          have R1 : Hid (EV w B (endsP (ptsN ys (n + 1))) _) := Lib.hid (by have := HE.out; rw [List.take_of_length_le (show ps.length ≤ k by rw [HKL.out]; exact Nat.le_refl _)] at this; rw [HPN.out]; exact this)
          have R2 : Hid (smP (endsP (Q ++ ps.take k)) = smP (endsP (ptsN ys (n + 1)))) := Lib.hid (by rw [HPN.out, List.take_of_length_le (show ps.length ≤ k by rw [HKL.out]; exact Nat.le_refl _)])
          clear hE
          go_wp2
          go_roundw
          case rel => exact ⟨n + 1, by omega, by go_num, by rw [← R2.out], R1.out⟩
          case measure => simp [intOf]; omega
    · obtain rfl : n = N := by omega
      have o3 : ¬ (n : Int) < n := by omega
      obtain ⟨E, hE⟩ : ∃ E, endsP (ptsN ys n) = E := ⟨_, rfl⟩
      rw [hE] at HK hk
      have HEE := Lib.hid hE
      have p0 := hk.k1.cell 0 _ rfl
      have p1 := hk.k1.cell 1 _ rfl
      have q0 := hk.k2.cell 0 _ rfl
      have q1 := hk.k2.cell 1 _ rfl
      have fz := has_fro hk.k1
      have fz2 := has_fro hk.k2
      clear hk hE
      go_upto_region 13 with fail
      obtain ⟨ea, hea⟩ : ∃ x, lsP E = x := ⟨_, rfl⟩
      obtain ⟨eb, heb⟩ : ∃ x, gsP E = x := ⟨_, rfl⟩
      have HEA := Lib.hid hea
      have HEB := Lib.hid heb
      rw [hea] at p0 p1
      rw [heb] at q0 q1
      obtain ⟨ax, ay⟩ := ea
      obtain ⟨bx, by'⟩ := eb
      clear hea heb
      go_region
      have R0 : EV w B E ((((wr.setCell ⟨B, 0, none⟩ (.int .i64 ax)).setCell ⟨B, 1, none⟩ (.int .i64 ay)).setCell ⟨B + 1, 0, none⟩ (.int .i64 bx)).setCell ⟨B + 1, 1, none⟩ (.int .i64 by')) := by
        have := HK.out.put E
        rw [HEA.out, HEB.out] at this
        exact this
      obtain ⟨X, hX⟩ : ∃ X, ((((wr.setCell ⟨B, 0, none⟩ (.int .i64 ax)).setCell ⟨B, 1, none⟩ (.int .i64 ay)).setCell ⟨B + 1, 0, none⟩ (.int .i64 bx)).setCell ⟨B + 1, 1, none⟩ (.int .i64 by')).drew = X := ⟨_, rfl⟩
      have R1 : Hid (EV w B E X) := Lib.hid (by rw [← hX]; exact R0.later (below_drew (Below.refl _ _)))
      rw [hX]
      clear p0 p1 q0 q1 fz fz2 R0 hX
      have r1 := R1.out.k1
      have r2 := R1.out.k2
      rw [HEA.out] at r1
      rw [HEB.out] at r2
      have p0 := r1.cell 0 _ rfl
      have p1 := r1.cell 1 _ rfl
      have q0 := r2.cell 0 _ rfl
      have q1 := r2.cell 1 _ rfl
      clear r1 r2
      go_wp2
      refine bodyPost_ret (v := .tuple #[.agg #[.int .i64 ax, .int .i64 ay], .agg #[.int .i64 bx, .int .i64 by'], .bool (smP (endsP (ptsN ys n)))]) (by simp [results, Try.results56, go_sem, p0, p1, q0, q1]) rfl ⟨?_, R1.out.below⟩
      rw [HEE.out, HEA.out, HEB.out]

end Go.Proofs.Ytopepgifhnfbiaa

namespace Go.Proofs.Ytopepgifhnfbiaa
open Go Go.RowKit
open M

def PI (ps : List Pt) : Prop := ∀ p ∈ ps, I64 p.x ∧ I64 p.y
theorem PI.gs {ps : List Pt} (h : PI ps) : I64 (gsP (endsP ps)).x ∧ I64 (gsP (endsP ps)).y := by
  rcases e : endsP ps with _ | ⟨a, b⟩
  · simp [gsP, I64]
  · obtain ⟨_, _, _, ⟨p3, m3, e3⟩, ⟨p4, m4, e4⟩⟩ := ends_all ps a b e
    have h3 := (h p3 m3).1
    have h4 := (h p4 m4).2
    rw [e3] at h3
    rw [e4] at h4
    exact ⟨h3, h4⟩
set_option maxHeartbeats 2000000 in
theorem b_of {v : Value} {ys : List Po} {w : World} (h : Ysl w v ys) (hp : PI (ptsN ys ys.length)) :
    Calls Try.prog 40 #[v] w fun r w' => r = .returned (.agg (bCells (boxP (ptsN ys ys.length)))) ∧ Below w.heap.size w w' := by
  obtain ⟨W, hW⟩ : ∃ W, w.alloc (.cells #[.int .i64 0, .int .i64 0, .int .i64 0, .int .i64 0] 41) = W := ⟨_, rfl⟩
  obtain ⟨B, hB⟩ : ∃ B, w.heap.size = B := ⟨_, rfl⟩
  have hr : Has W B #[.int .i64 0, .int .i64 0, .int .i64 0, .int .i64 0] 41 := by rw [← hW]; exact has_new hB
  have hb0 : Below w.heap.size w W := by rw [← hW]; exact (Below.refl _ _).alloc (Nat.le_refl _) _
  have EN := Lib.hid (b_ends (h.below hb0))
  have GI := Lib.hid hp.gs
  have BX : Hid (boxP (ptsN ys ys.length) = boxE (endsP (ptsN ys ys.length))) := Lib.hid rfl
  obtain ⟨E, hE⟩ : ∃ E, endsP (ptsN ys ys.length) = E := ⟨_, rfl⟩
  rw [hE] at EN GI BX
  have HW := Lib.hid hW
  have HB0 := Lib.hid hb0
  have HR := Lib.hid hr
  obtain ⟨ao, n, cap, rfl⟩ : ∃ ao n cap, v = .slice ao n cap := by obtain ⟨ao, cap, e, _⟩ := h; exact ⟨_, _, _, e⟩
  obtain ⟨a, ha⟩ : ∃ a, lsP E = a := ⟨_, rfl⟩
  obtain ⟨b, hb⟩ : ∃ b, gsP E = b := ⟨_, rfl⟩
  obtain ⟨sm, hsm⟩ : ∃ s, smP E = s := ⟨_, rfl⟩
  rw [ha, hb, hsm] at EN
  rw [hb] at GI
  have BX2 : Hid (boxP (ptsN ys ys.length) = if sm = true then ⟨dn a.x, dn a.y, up b.x, up b.y⟩ else zeroB) := Lib.hid (by
    rw [BX.out]
    rcases E with _ | ⟨c, d⟩
    · have : sm = false := by rw [← hsm]; rfl
      subst this; rfl
    · have : sm = true := by rw [← hsm]; rfl
      have e1 : c = a := ha
      have e2 : d = b := hb
      subst this e1 e2; rfl)
  obtain ⟨R, hR⟩ : ∃ R, boxP (ptsN ys ys.length) = R := ⟨_, rfl⟩
  rw [hR] at BX2 ⊢
  obtain ⟨ax, ay⟩ := a
  obtain ⟨bx, by'⟩ := b
  simp only at BX2
  have HBe := Lib.hid hB
  clear h hp hW hr hb0 hE ha hb hsm hR BX
  go_enter Try.func40, Try.ntmps40
  go_upto_region 1 with fail
  rw [HW.out]
  clear hB
  go_wp2_with fail
  refine EN.out.mono ?_
  rintro r w1 ⟨rfl, hq⟩
  have hr := HR.out.below hq HR.out.lt
  have B1 := Lib.hid (HB0.out.trans (hq.mono HB0.out.size))
  obtain ⟨V, hV⟩ : ∃ V, (w1.alloc (.cells #[.int .i64 ax, .int .i64 ay] 28)).alloc (.cells #[.int .i64 bx, .int .i64 by'] 28) = V := ⟨_, rfl⟩
  obtain ⟨ka, kb, kbl⟩ := has_old hV
  obtain ⟨G, hG⟩ : ∃ G, w1.heap.size = G := ⟨_, rfl⟩
  rw [hG] at ka kb
  have B2 := Lib.hid (B1.out.trans (kbl.mono B1.out.size))
  have HR2 := Lib.hid (hr.below kbl hr.lt)
  have KA := Lib.hid ka
  have KB := Lib.hid kb
  have HV := Lib.hid hV
  clear hq hr ka kb kbl hV
  go_upto_region 2 with fail
  rw [HV.out]
  clear hG
  have a0 := KA.out.cell 0 _ rfl
  have a1 := KA.out.cell 1 _ rfl
  have b0 := KB.out.cell 0 _ rfl
  have b1 := KB.out.cell 1 _ rfl
  have r0 := HR2.out.cell 0 _ rfl
  have r1 := HR2.out.cell 1 _ rfl
  have r2 := HR2.out.cell 2 _ rfl
  have r3 := HR2.out.cell 3 _ rfl
  have fz := has_fro HR2.out
  cases sm
  · go_wp2
    refine bodyPost_ret (v := .agg #[.int .i64 0, .int .i64 0, .int .i64 0, .int .i64 0]) (by simp [results, Try.results40, go_sem, r0, r1, r2, r3]) rfl ⟨by rw [BX2.out]; rfl, ?_⟩
    repeat (first | exact B2.out | refine Below.setCell ?_ (show w.heap.size ≤ B by have := HBe.out; omega) _)
  · go_upto_region 4 with fail
    refine wp_region_draws_tail 13 (by kernel_rfl) (by kernel_rfl) (by kernel_rfl) (by kernel_rfl) ?_
    simp only [List.take_succ_cons, List.take_zero, List.drop_succ_cons, List.drop_zero]
    repeat (go_big_quiet_step (first | (go_at_call 57; exact quiet1 (b_down _ _)) | (go_at_call_of 58 bx; exact quiet1 (b_up bx GI.out.1 _)) | (go_at_call_of 58 by'; exact quiet1 (b_up by' GI.out.2 _))))
    refine wpQuiet_nil ?_
    rintro _ ⟨nq, rfl⟩
    obtain ⟨X, hX⟩ : ∃ X, V.drewN nq = X := ⟨_, rfl⟩
    have HX := Lib.hid (show Has X B #[.int .i64 0, .int .i64 0, .int .i64 0, .int .i64 0] 41 by rw [← hX]; exact HR2.out)
    have B3 := Lib.hid (show Below w.heap.size w X by rw [← hX]; exact below_drewN B2.out _)
    rw [hX]
    clear r0 r1 r2 r3 fz a0 a1 b0 b1 hX
    have r0 := HX.out.cell 0 _ rfl
    have r1 := HX.out.cell 1 _ rfl
    have r2 := HX.out.cell 2 _ rfl
    have r3 := HX.out.cell 3 _ rfl
    have fz := has_fro HX.out
    go_wp2
    refine bodyPost_ret (v := .agg #[.int .i64 (dn ax), .int .i64 (dn ay), .int .i64 (up bx), .int .i64 (up by')]) (by simp [results, Try.results40, go_sem, r0, r1, r2, r3]) rfl ⟨by rw [BX2.out]; rfl, ?_⟩
    repeat (first | exact B3.out | refine Below.setCell ?_ (show w.heap.size ≤ B by have := HBe.out; omega) _)

/-- What the reference holds of the places so far. -/
structure RV (w0 : World) (B : Nat) (e : Option (Pt × Pt)) (wr : World) : Prop where
  k0 : Has wr B #[.int .i64 0, .int .i64 0, .int .i64 0, .int .i64 0] 41
  k1 : Has wr (B + 1) (bCells (boxE e)) 41
  below : Below w0.heap.size w0 wr
  lo : w0.heap.size ≤ B
theorem RV.later {w0 wr w' : World} {g : Nat} {e : Option (Pt × Pt)} (h : RV w0 g e wr) (hb : Below wr.heap.size wr w') : RV w0 g e w' :=
  ⟨h.k0.below hb h.k0.lt, h.k1.below hb h.k1.lt, h.below.trans (hb.mono h.below.size), h.lo⟩
/-- The box's block behind a store. -/
theorem box_put {wr : World} {g : Nat} {cs : Array Value} {b : Bo} (hs : cs.size = 4) (h : Has wr g cs 41) :
    Has ((((wr.setCell ⟨g, 0, none⟩ (.int .i64 b.x0)).setCell ⟨g, 1, none⟩ (.int .i64 b.y0)).setCell ⟨g, 2, none⟩ (.int .i64 b.x1)).setCell ⟨g, 3, none⟩ (.int .i64 b.y1)) g (bCells b) 41 := by
  have := has_set (has_set (has_set (has_set h 0 (.int .i64 b.x0)) 1 (.int .i64 b.y0)) 2 (.int .i64 b.x1)) 3 (.int .i64 b.y1)
  match cs, hs with
  | ⟨[c0, c1, c2, c3]⟩, _ => simpa using this
theorem RV.put {w0 wr : World} {g : Nat} {e : Option (Pt × Pt)} (h : RV w0 g e wr) (e' : Option (Pt × Pt)) (b : Bo) (hb : boxE e' = b) :
    RV w0 g e' ((((wr.setCell ⟨g + 1, 0, none⟩ (.int .i64 b.x0)).setCell ⟨g + 1, 1, none⟩ (.int .i64 b.y0)).setCell ⟨g + 1, 2, none⟩ (.int .i64 b.x1)).setCell ⟨g + 1, 3, none⟩ (.int .i64 b.y1)) := by
  have hl := h.lo
  subst hb
  exact ⟨has_set_ne (has_set_ne (has_set_ne (has_set_ne h.k0 (by omega) _ _) (by omega) _ _) (by omega) _ _) (by omega) _ _, box_put rfl h.k1,
    (((h.below.setCell (show w0.heap.size ≤ g + 1 by omega) _).setCell (show w0.heap.size ≤ g + 1 by omega) _).setCell (show w0.heap.size ≤ g + 1 by omega) _).setCell (show w0.heap.size ≤ g + 1 by omega) _, hl⟩
theorem boxE_pre (e : Option (Pt × Pt)) (p : Pt) (b : Bo) (h : (if e = none then pixB p else boxE e) = b) : boxE (ends1 e p) = uniB b (pixB p) := by
  rw [boxE_snoc]
  by_cases h0 : e = none
  · rw [if_pos h0] at h ⊢; subst h; rw [uniB_self]
  · rw [if_neg h0] at h ⊢; subst h; rfl
theorem pi_mem {ys : List Po} : ∀ {m n k : Nat}, n < m → k < (po ys n).ps.length → pt (po ys n).ps k ∈ ptsN ys m := by
  intro m
  induction m with
  | zero => intro n k h; omega
  | succ m ih =>
    intro n k h hk
    rw [ptsN]
    by_cases e : n = m
    · subst e
      refine List.mem_append_right _ ?_
      unfold pt
      simp [List.getD, hk]
    · exact List.mem_append_left _ (ih (by omega) hk)

end Go.Proofs.Ytopepgifhnfbiaa

namespace Go.Proofs.Ytopepgifhnfbiaa
open Go Go.RowKit
open M

theorem infoD : SdInfo 57 54 := ⟨by kernel_rfl, Try.underlying54⟩
/-- What holds in a round: the list, and the place that the next side goes from, in block G. -/
structure DR (w : World) (o : Value) (ls : List Sd) (G : Nat) (a : Pt) (wr : World) : Prop where
  own : Down 57 wr w.heap.size o ls
  kg : Has wr G (pCells a) 28
  lo : w.heap.size ≤ G
  ne : o.ownBlock ≠ some G
  below : Below w.heap.size w wr
theorem DR.later {w wr w' : World} {o : Value} {ls : List Sd} {G : Nat} {a : Pt} (h : DR w o ls G a wr) (hb : Below wr.heap.size wr w') : DR w o ls G a w' :=
  ⟨h.own.below hb (Nat.le_refl _), h.kg.below hb h.kg.lt, h.lo, h.ne, h.below.trans (hb.mono h.below.size)⟩
theorem DR.put {w wr : World} {o : Value} {ls : List Sd} {G : Nat} {a : Pt} (h : DR w o ls G a wr) (b : Pt) : DR w o ls G b ((wr.setCell ⟨G, 0, none⟩ (.int .i64 b.x)).setCell ⟨G, 1, none⟩ (.int .i64 b.y)) := by
  have hs : wr.grownBy ((wr.setCell ⟨G, 0, none⟩ (.int .i64 b.x)).setCell ⟨G, 1, none⟩ (.int .i64 b.y)) (some G) := grownBy_set (grownBy_set (World.grownBy.refl _ _) _ _) _ _
  refine ⟨World.ownsRow.kept h.own hs (Or.inr h.ne), two_set h.kg _ _, h.lo, h.ne, (h.below.setCell h.lo _).setCell h.lo _⟩
theorem DR.grow {w wr w' : World} {o : Value} {ls : List Sd} {G : Nat} {a : Pt} (h : DR w o ls G a wr) {s : Sd} {g' n' cap' : Nat} (ho : Down 57 w' w.heap.size (.slice (some ⟨g', 0, none⟩) n' cap') (ls ++ [s])) (hg : wr.grownBy w' o.ownBlock) (hw : o.ownBlock = some g' ∨ g' = wr.heap.size) : DR w (.slice (some ⟨g', 0, none⟩) n' cap') (ls ++ [s]) G a w' := by
  refine ⟨ho, (hg.block G h.kg.lt (fun e => h.ne e.symm)).trans h.kg, h.lo, fun e => ?_, h.below.grown hg h.below.size (fun k e => (h.own.base k e).1)⟩
  have e1 : some g' = some G := e
  simp at e1
  subst e1
  rcases hw with e2 | e2
  · exact h.ne e2
  · have := h.kg.lt; omega
theorem sd_total {F : Nat → List Pt} {y0 y1 : Int} {ys : List Po} (hF : ∀ i, F i = (po ys i).ps) : ∀ n, (sdR y0 y1 F n).length ≤ (ptsN ys n).length
  | 0 => Nat.le_refl _
  | n + 1 => by
    have h1 := sd_total (y0 := y0) (y1 := y1) hF n
    have h2 := sdQ_length y0 y1 (F n)
    rw [hF n] at h2
    show (sdR y0 y1 F n ++ sdQ y0 y1 (F n)).length ≤ (ptsN ys n ++ (po ys n).ps).length
    rw [List.length_append, List.length_append, hF n]
    omega
theorem pts_mono {ys : List Po} : ∀ {n m : Nat}, n ≤ m → (ptsN ys n).length ≤ (ptsN ys m).length := by
  intro n m h
  induction h with
  | refl => exact Nat.le_refl _
  | step _ ih =>
    refine Nat.le_trans ih ?_
    show _ ≤ (ptsN ys _ ++ _).length
    rw [List.length_append]; omega

set_option maxRecDepth 100000 in
set_option maxHeartbeats 8000000 in
theorem c_sides {v : Value} {ys : List Po} {w : World} (y0 y1 : Int) (h : Ysl w v ys) (hf : (ptsN ys ys.length).length ≤ 4194304) :
    Calls Try.prog 24 #[v, .int .i64 y0, .int .i64 y1] w (GivesD 57 w (sdR y0 y1 (fun i => (po ys i).ps) ys.length)) := by
  obtain ⟨N, hN⟩ : ∃ N, ys.length = N := ⟨_, rfl⟩
  obtain ⟨ao, cap, ev⟩ : ∃ ao cap, v = .slice ao N cap := by obtain ⟨ao, cap, e, _⟩ := h; rw [hN] at e; exact ⟨_, _, e⟩
  subst ev
  rw [hN]
  obtain ⟨F, hF⟩ : ∃ F, (fun i => (po ys i).ps) = F := ⟨_, rfl⟩
  rw [hF]
  have TT : Hid (∀ n, n ≤ N → (sdR y0 y1 F n).length + 0 ≤ (ptsN ys n).length) := Lib.hid (fun n _ => by have := sd_total (y0 := y0) (y1 := y1) (F := F) (ys := ys) (fun i => by rw [← hF]) n; omega)
  have TM : Hid (∀ n, n ≤ N → (ptsN ys n).length ≤ 4194304) := Lib.hid (fun n hn => Nat.le_trans (pts_mono (by rw [hN]; exact hn)) hf)
  have HS := Lib.hid h
  have hN1 : N ≤ 1000 := by obtain ⟨_, _, _, hf, _⟩ := h; omega
  have HN1 := Lib.hid hN1
  have HF := Lib.hid hF.symm
  clear h hN hN1 hF hf
  go_enter Try.func24, Try.ntmps24
  go_wp2_with fail
  go_loopw [7, 16] (fun o i wr => ∃ n : Nat, n ≤ N ∧ i = .int .i64 n ∧ Down 57 wr w.heap.size o (sdR y0 y1 F n) ∧ Below w.heap.size w wr) (fun _ i _ => N - (intOf i).toNat)
  case atStart => exact ⟨0, by omega, rfl, Down.nil _ _ _, Below.refl _ _⟩
  case round =>
    obtain ⟨n, hn, rfl, ho, hb⟩ := hrel
    have o0 : (N : Int) ≤ 1000 := by have := HN1.out; omega
    have HB := Lib.hid hb
    have HO := Lib.hid ho
    obtain ⟨L, hL⟩ : ∃ L, sdR y0 y1 F n = L := ⟨_, rfl⟩
    rw [hL] at HO
    have HL := Lib.hid hL
    clear hb ho hL
    by_cases hlt : n < N
    · obtain ⟨g, o, e1, r0, l0⟩ := HS.out.row (by omega)
      subst e1
      have hsl := r0.sl n (by omega)
      have cs0 := (r0.below HB.out (by omega)).c0 n (by omega)
      have cs := (r0.below HB.out (by omega)).c1 n (by omega)
      obtain ⟨p, hp⟩ : ∃ p, po ys n = p := ⟨_, rfl⟩
      have HFN : Hid (F n = p.ps) := Lib.hid (by rw [HF.out]; show (po ys n).ps = _; rw [hp])
      have TN : Hid ((sdR y0 y1 F n).length + p.ps.length ≤ 4194304) := Lib.hid (by
        have h1 := TT.out n (by omega)
        have h2 := TM.out (n + 1) (by omega)
        have h3 : (ptsN ys (n + 1)).length = (ptsN ys n).length + (po ys n).ps.length := by show (ptsN ys n ++ (po ys n).ps).length = _; rw [List.length_append]
        rw [hp] at h3
        omega)
      rw [hp] at hsl cs cs0
      obtain ⟨c, vy, ps⟩ := p
      simp only at hsl HFN cs cs0 TN
      obtain ⟨K, hK⟩ : ∃ K, ps.length = K := ⟨_, rfl⟩
      obtain ⟨aoy, capy, evy⟩ : ∃ ao cap, vy = .slice ao K cap := by obtain ⟨ao, cap, hv, _⟩ := hsl; rw [hK] at hv; exact ⟨_, _, hv⟩
      subst evy
      have SV := Lib.hid hsl
      have HKL := Lib.hid hK
      have o6 : (K : Int) ≤ 4194304 := by have := TN.out; omega
      have o3 : (n : Int) < N := by omega
      have ES : Hid (sdR y0 y1 F (n + 1) = L ++ sdQ y0 y1 ps) := Lib.hid (by show sdR y0 y1 F n ++ sdQ y0 y1 (F n) = _; rw [HL.out, HFN.out])
      rw [HL.out] at TN
      obtain ⟨P, hP⟩ : ∃ P, wr.heap.size = P := ⟨_, rfl⟩
      obtain ⟨V, hV⟩ : ∃ V, wr.alloc (.cells #[.bool c, .slice aoy K capy] 31) = V := ⟨_, rfl⟩
      have hp : Has V P #[.bool c, .slice aoy K capy] 31 := by rw [← hV]; exact has_new hP
      have bV : Below wr.heap.size wr V := by rw [← hV]; exact (Below.refl _ _).alloc (Nat.le_refl _) _
      have HV := Lib.hid hV
      have KP := Lib.hid hp
      have BV := Lib.hid (HB.out.trans (bV.mono HB.out.size))
      have OV := Lib.hid (HO.out.below bV (Nat.le_refl _))
      have SW := Lib.hid (SV.out.below BV.out (Nat.le_refl _))
      clear r0 l0 hsl hK hp hV bV
      go_upto_region 5 with fail
      rw [HV.out]
      clear hP cs cs0
      have p1 := KP.out.cell 1 _ rfl
      by_cases h2 : K < 2
      · have o7 : (K : Int) < 2 := by omega
        have E : Hid (sdR y0 y1 F (n + 1) = L) := Lib.hid (by rw [ES.out]; unfold sdQ; rw [if_pos (by have := HKL.out; omega), List.append_nil])
        go_wp2
        go_roundw
        case rel => exact ⟨n + 1, by omega, by go_num, by rw [E.out]; exact OV.out, BV.out⟩
        case measure => simp [intOf]; omega
      · have o7 : ¬ (K : Int) < 2 := by omega
        have ES2 : Hid (sdR y0 y1 F (n + 1) = L ++ sdN y0 y1 ps K) := Lib.hid (by rw [ES.out]; unfold sdQ; rw [if_neg (by have := HKL.out; omega), HKL.out])
        obtain ⟨gq, oq, eq, row, -⟩ := SW.out.row (by omega)
        subst eq
        obtain ⟨J, hJ⟩ : ∃ J, K - 1 = J := ⟨_, rfl⟩
        have hJK : J < K := by omega
        have oJ : (K : Int) - 1 = J := by omega
        have oJ2 : (J : Int) < K := by omega
        have HJ : Hid (K - 1 = J) := Lib.hid hJ
        clear hJ
        obtain ⟨q, hq⟩ : ∃ q, pt ps J = q := ⟨_, rfl⟩
        have q0 := row.c0 J (by have := HKL.out; omega)
        have q1 := row.c1 J (by have := HKL.out; omega)
        rw [hq] at q0 q1
        have HQ := Lib.hid hq
        have CH := Lib.hid (fun w => c_held q w)
        obtain ⟨qx, qy⟩ := q
        simp only at q0 q1
        have HROW := Lib.hid row
        clear row hq
        go_wp2_with fail
        refine (CH.out _).mono ?_
        rintro e w1 ⟨rfl, hb1⟩
        obtain ⟨G, hG⟩ : ∃ G, w1.heap.size = G := ⟨_, rfl⟩
        obtain ⟨a, ha⟩ : ∃ a, plc (⟨qx, qy⟩ : Pt) = a := ⟨_, rfl⟩
        obtain ⟨V2, hV2⟩ : ∃ V2, w1.alloc (.cells (pCells a) 28) = V2 := ⟨_, rfl⟩
        have kg : Has V2 G (pCells a) 28 := by rw [← hV2]; exact has_new hG
        have b2 : Below w1.heap.size w1 V2 := by rw [← hV2]; exact (Below.refl _ _).alloc (Nat.le_refl _) _
        have b3 : Below V.heap.size V V2 := hb1.trans (b2.mono hb1.size)
        have D0 : Hid (DR w u7 (L ++ sdN y0 y1 ps 0) G a V2) := Lib.hid ⟨by rw [show L ++ sdN y0 y1 ps 0 = L from List.append_nil L]; exact OV.out.below b3 (Nat.le_refl _), kg, by have := BV.out.size; have := hb1.size; omega, fun e => by have := (OV.out.base _ e).2; have := hb1.size; omega, BV.out.trans (b3.mono BV.out.size)⟩
        have EA : Hid (a = plc (pt ps J)) := Lib.hid (by rw [HQ.out, ha])
        have KP2 := Lib.hid (KP.out.below b3 KP.out.lt)
        have B3 := Lib.hid b3
        have HV2 := Lib.hid hV2
        obtain ⟨ax, ay⟩ := a
        rw [ha]
        clear q0 q1 p1 kg b2 b3 hb1 hV2 ha
        go_upto_region 7 with fail
        rw [HV2.out]
        clear hG
        have p1 := KP2.out.cell 1 _ rfl
        go_wp2_with fail
        go_loopw [7, 36] (fun o i wk => ∃ (k : Nat) (b : Pt), k ≤ K ∧ i = .int .i64 k ∧ b = plc (pt ps (if k = 0 then K - 1 else k - 1)) ∧ DR w o (L ++ sdN y0 y1 ps k) G b wk) (fun _ i _ => K - (intOf i).toNat)
        case atStart => exact ⟨0, ⟨ax, ay⟩, by omega, rfl, by rw [if_pos rfl, HJ.out]; exact EA.out, D0.out⟩
        case round =>
          clear D0 EA p1
          obtain ⟨k, b, hk, rfl, hbe, hd⟩ := hrel
          have HD := Lib.hid hd
          have HBE := Lib.hid hbe
          clear hd hbe
          by_cases hkl : k < K
          · obtain ⟨g2, o2, eq, row, -⟩ := (SV.out.below HD.out.below (Nat.le_refl _)).row (by omega)
            simp only [Option.some.injEq, Addr.mk.injEq, and_true] at eq
            obtain ⟨rfl, rfl⟩ := eq
            have t0 := row.c0 k (by have := HKL.out; omega)
            have t1 := row.c1 k (by have := HKL.out; omega)
            obtain ⟨t, ht⟩ : ∃ t, pt ps k = t := ⟨_, rfl⟩
            rw [ht] at t0 t1
            have HT := Lib.hid ht
            have CT := Lib.hid (fun w => c_held t w)
            obtain ⟨tx, ty⟩ := t
            simp only at t0 t1
            have o9 : (k : Int) < K := by omega
            obtain ⟨T, hT⟩ : ∃ T, wr.heap.size = T := ⟨_, rfl⟩
            obtain ⟨V3, hV3⟩ : ∃ V3, wr.alloc (.cells #[.int .i64 tx, .int .i64 ty] 28) = V3 := ⟨_, rfl⟩
            have kt : Has V3 T #[.int .i64 tx, .int .i64 ty] 28 := by rw [← hV3]; exact has_new hT
            have b3 : Below wr.heap.size wr V3 := by rw [← hV3]; exact (Below.refl _ _).alloc (Nat.le_refl _) _
            have D3 := Lib.hid (HD.out.later b3)
            have KT := Lib.hid kt
            have HV3 := Lib.hid hV3
            clear row ht kt b3 hV3
            go_upto_region 10 with fail
            rw [HV3.out]
            clear hT t0 t1
            have t0 := KT.out.cell 0 _ rfl
            have t1 := KT.out.cell 1 _ rfl
            go_wp2_with fail
            refine (CT.out _).mono ?_
            rintro e w2 ⟨rfl, hb2⟩
            obtain ⟨Hb, hHb⟩ : ∃ G, w2.heap.size = G := ⟨_, rfl⟩
            obtain ⟨b', hbb⟩ : ∃ a, plc (⟨tx, ty⟩ : Pt) = a := ⟨_, rfl⟩
            obtain ⟨V4, hV4⟩ : ∃ V4, w2.alloc (.cells (pCells b') 28) = V4 := ⟨_, rfl⟩
            have kb : Has V4 Hb (pCells b') 28 := by rw [← hV4]; exact has_new hHb
            have b4 : Below w2.heap.size w2 V4 := by rw [← hV4]; exact (Below.refl _ _).alloc (Nat.le_refl _) _
            have D4 := Lib.hid ((D3.out.later hb2).later b4)
            have KB := Lib.hid kb
            have HV4 := Lib.hid hV4
            have NE : Hid (Hb ≠ G ∧ w.heap.size ≤ Hb ∧ Value.ownBlock u7 ≠ some Hb) := Lib.hid ⟨by have := D3.out.kg.lt; have := hb2.size; omega, by have := D3.out.below.size; have := hb2.size; omega, fun e => by have := (D3.out.own.base _ e).2; have := hb2.size; omega⟩
            have HSD : Hid (sideA ps k = (b, b')) := Lib.hid (by unfold sideA; rw [HKL.out, ← HBE.out, HT.out, hbb])
            rw [hbb]
            obtain ⟨bx, bY⟩ := b
            obtain ⟨cx, cy⟩ := b'
            clear kb b4 hb2 hV4 hbb t0 t1
            go_upto_region 11 with fail
            rw [HV4.out]
            clear hHb
            have g0 := D4.out.kg.cell 0 _ rfl
            have g1 := D4.out.kg.cell 1 _ rfl
            have k0 := KB.out.cell 0 _ rfl
            have k1 := KB.out.cell 1 _ rfl
            have fz := has_fro D4.out.kg
            obtain ⟨m0, hm0⟩ : ∃ m, (if cy < bY then cy else bY) = m := ⟨_, rfl⟩
            obtain ⟨m1, hm1⟩ : ∃ m, (if bY < cy then cy else bY) = m := ⟨_, rfl⟩
            have hn0 : min bY cy = m0 := by rw [← hm0]; split <;> omega
            have hn1 : max bY cy = m1 := by rw [← hm1]; split <;> omega
            have SO : Hid (sdOk y0 y1 (sideA ps k) = (decide (m0 ≤ y1) && decide (y0 < m1))) := Lib.hid (by rw [HSD.out]; unfold sdOk minI maxI; simp only; rw [hm0, hm1])
            have HK1 : Hid ((⟨cx, cy⟩ : Pt) = plc (pt ps (if k + 1 = 0 then K - 1 else k + 1 - 1))) := Lib.hid (by have := congrArg Prod.snd HSD.out; rw [if_neg (by omega)]; exact this.symm)
            clear hm0 hm1
            by_cases hA : m0 ≤ y1
            · by_cases hB : y0 < m1
              · have E : Hid (L ++ sdN y0 y1 ps (k + 1) = (L ++ sdN y0 y1 ps k) ++ [((⟨bx, bY⟩ : Pt), (⟨cx, cy⟩ : Pt))]) := Lib.hid (by rw [sdN_yes (by rw [SO.out]; simp [hA, hB]), ← List.append_assoc, HSD.out])
                go_upto_region 12 with fail
                obtain ⟨Hs, hHs⟩ : ∃ G, V4.heap.size = G := ⟨_, rfl⟩
                obtain ⟨V5, hV5⟩ : ∃ V5, V4.alloc (.cells #[.int .i64 bx, .int .i64 bY, .int .i64 cx, .int .i64 cy] 57) = V5 := ⟨_, rfl⟩
                have ks : Has V5 Hs (dCells ((⟨bx, bY⟩ : Pt), (⟨cx, cy⟩ : Pt))) 57 := by rw [← hV5]; exact has_new hHs
                have b5 : Below V4.heap.size V4 V5 := by rw [← hV5]; exact (Below.refl _ _).alloc (Nat.le_refl _) _
                have D5 := Lib.hid (D4.out.later b5)
                have KS := Lib.hid ks
                have KB5 := Lib.hid (KB.out.below b5 KB.out.lt)
                have HV5 := Lib.hid hV5
                obtain ⟨M, hM⟩ : ∃ M, (L ++ sdN y0 y1 ps k).length = M := ⟨_, rfl⟩
                have LM : Hid (M ≤ 8000000) := Lib.hid (by rw [← hM, List.length_append]; have := sdN_length y0 y1 ps k; have := TN.out; have := HKL.out; omega)
                have HM := Lib.hid hM
                have B5 : Hid (w.heap.size ≤ V5.heap.size) := Lib.hid D5.out.below.size
                clear ks b5 hV5 hM fz SO hn0 hn1
                go_wp2_with (at_builtin; rw [HV5.out]; refine wpList_append_sd infoD rfl _ _ rfl M HM.out rfl Hs rfl ((⟨bx, bY⟩ : Pt), (⟨cx, cy⟩ : Pt)) _ KS.out rfl D5.out.own LM.out B5.out ?_)
                intro g' cap' w5 ho5 hg5 hw5
                rw [← List.append_assoc] at ho5
                have D6 := Lib.hid (D5.out.grow ho5 hg5 hw5)
                have KB6 := Lib.hid (show Has w5 Hb (pCells ⟨cx, cy⟩) 28 from (hg5.block Hb KB5.out.lt (fun e => NE.out.2.2 e.symm)).trans KB5.out)
                have R := Lib.hid (D6.out.put ⟨cx, cy⟩)
                clear g0 g1 k0 k1 hHs ho5 hg5 hw5
                have k0 := KB6.out.cell 0 _ rfl
                have k1 := KB6.out.cell 1 _ rfl
                have g0 := D6.out.kg.cell 0 _ rfl
                have g1 := D6.out.kg.cell 1 _ rfl
                have fz := has_fro D6.out.kg
                go_wp2
                go_roundw
                case rel => exact ⟨k + 1, ⟨cx, cy⟩, by omega, by go_num, HK1.out, by rw [E.out]; exact R.out⟩
                case measure => simp [intOf]; omega
              · have E : Hid (L ++ sdN y0 y1 ps (k + 1) = L ++ sdN y0 y1 ps k) := Lib.hid (by rw [sdN_no (by rw [SO.out]; simp; omega)])
                have R := Lib.hid (D4.out.put ⟨cx, cy⟩)
                go_wp2
                go_roundw
                case rel => exact ⟨k + 1, ⟨cx, cy⟩, by omega, by go_num, HK1.out, by rw [E.out]; exact R.out⟩
                case measure => simp [intOf]; omega
            · have E : Hid (L ++ sdN y0 y1 ps (k + 1) = L ++ sdN y0 y1 ps k) := Lib.hid (by rw [sdN_no (by rw [SO.out]; simp; omega)])
              have R := Lib.hid (D4.out.put ⟨cx, cy⟩)
              go_wp2
              go_roundw
              case rel => exact ⟨k + 1, ⟨cx, cy⟩, by omega, by go_num, HK1.out, by rw [E.out]; exact R.out⟩
              case measure => simp [intOf]; omega
          · obtain rfl : k = K := by omega
            have o9 : ¬ (k : Int) < k := by omega
            have R : Hid (Down 57 wr w.heap.size u7 (sdR y0 y1 F (n + 1)) ∧ Below w.heap.size w wr) := Lib.hid ⟨by rw [ES2.out]; exact HD.out.own, HD.out.below⟩
            go_wp2
            go_roundw
            case rel => exact ⟨n + 1, by omega, by go_num, R.out.1, R.out.2⟩
            case measure => simp [intOf]; omega
    · obtain rfl : n = N := by omega
      have o3 : ¬ (n : Int) < n := by omega
      have R : Hid (∀ o, Down 57 wr w.heap.size o L → GivesD 57 w (sdR y0 y1 F n) (.returned o) wr) := Lib.hid (fun o ho => ⟨_, rfl, by rw [HL.out]; exact ho, HB.out⟩)
      have R2 := Lib.hid (R.out _ HO.out)
      go_wp2
      go_ret
      exact R2.out

end Go.Proofs.Ytopepgifhnfbiaa

namespace Go.Proofs.Ytopepgifhnfbiaa
open Go Go.RowKit
open M

theorem pi_ptsN {zs : List Po} (h : ∀ i, i < zs.length → PI (po zs i).ps) : ∀ n, n ≤ zs.length → PI (ptsN zs n)
  | 0, _ => fun p hp => by cases hp
  | n + 1, hn => fun p hp => by
    rcases List.mem_append.1 hp with h1 | h1
    · exact pi_ptsN h n (by omega) p h1
    · exact h n (by omega) p h1
theorem ptsN_part {zs : List Po} : ∀ {n i : Nat}, i < n → ∀ p ∈ (po zs i).ps, p ∈ ptsN zs n
  | 0, i, h, _, _ => by omega
  | n + 1, i, h, p, hp => by
    by_cases e : i = n
    · subst e; exact List.mem_append_right _ hp
    · exact List.mem_append_left _ (ptsN_part (by omega) p hp)
theorem ptsN_few {zs : List Po} {m : Nat} (h : ∀ i, i < zs.length → (po zs i).ps.length ≤ m) : ∀ n, n ≤ zs.length → (ptsN zs n).length ≤ n * m
  | 0, _ => by simp [ptsN]
  | n + 1, hn => by
    have := ptsN_few h n (by omega)
    have := h n (by omega)
    show (ptsN zs n ++ (po zs n).ps).length ≤ _
    rw [List.length_append, Nat.add_mul]
    omega
theorem few_all {zs : List Po} {m : Nat} (h : ∀ i, i < zs.length → (po zs i).ps.length ≤ m) (hl : zs.length ≤ 1000) (hm : m ≤ 1000) : (ptsN zs zs.length).length ≤ 4194304 := by
  have h1 := ptsN_few h _ (Nat.le_refl zs.length)
  have := Nat.mul_le_mul hl hm
  omega
theorem few_one {c : Bool} {v : Value} {ps : List Pt} (h : ps.length ≤ 50) : (ptsN [⟨c, v, ps⟩] ([⟨c, v, ps⟩] : List Po).length).length ≤ 4194304 := by
  simp [ptsN, po]
  omega
/-- Polys of which there are not too many places, whose numbers are of 64 bits. -/
structure Cv (zs : List Po) : Prop where
  few : (ptsN zs zs.length).length ≤ 4194304
  pi : PI (ptsN zs zs.length)
theorem cv_few {zs : List Po} (h : ∀ i, i < zs.length → PI (po zs i).ps ∧ (po zs i).ps.length ≤ 1000) (hl : zs.length ≤ 1000) : Cv zs := by
  refine ⟨?_, pi_ptsN (fun i hi => (h i hi).1) _ (Nat.le_refl _)⟩
  have := ptsN_few (fun i hi => (h i hi).2) _ (Nat.le_refl zs.length)
  omega

end Go.Proofs.Ytopepgifhnfbiaa

namespace Go.Proofs.Ytopepgifhnfbiaa
open Go Go.RowKit
open M

theorem take_sd {ls : List Sd} {k : Nat} (h : k < ls.length) : ls.take (k + 1) = ls.take k ++ [sd ls k] := by
  rw [List.take_succ_eq_append_getElem h]
  unfold sd
  simp [List.getD, h]
theorem sdN_ok (y0 y1 : Int) (ps : List Pt) : ∀ k, ∀ s ∈ sdN y0 y1 ps k, SdOk s
  | 0, s, hs => by cases hs
  | k + 1, s, hs => by
    cases h : sdOk y0 y1 (sideA ps k)
    · rw [sdN_no h] at hs
      exact sdN_ok y0 y1 ps k s hs
    · rw [sdN_yes h] at hs
      rcases List.mem_append.1 hs with h1 | h1
      · exact sdN_ok y0 y1 ps k s h1
      · rw [List.mem_singleton.1 h1]; exact sdOk_plc _ _
theorem sdR_ok (y0 y1 : Int) (F : Nat → List Pt) : ∀ n, ∀ s ∈ sdR y0 y1 F n, SdOk s
  | 0, s, hs => by cases hs
  | n + 1, s, hs => by
    rcases List.mem_append.1 hs with h1 | h1
    · exact sdR_ok y0 y1 F n s h1
    · unfold sdQ at h1
      split at h1
      · cases h1
      · exact sdN_ok _ _ _ _ s h1

set_option maxRecDepth 100000 in
set_option maxHeartbeats 4000000 in
theorem c_wind {v : Value} {ys : List Po} {w : World} (x y : Int) (h : Ysl w v ys) (hf : (ptsN ys ys.length).length ≤ 4194304) :
    Calls Try.prog 13 #[v, .int .i64 x, .int .i64 y] w fun r w' => r = .returned (.int .i64 (windY x y ys)) ∧ Below w.heap.size w w' := by
  unfold windY
  obtain ⟨X, hX⟩ : ∃ X, place x = X := ⟨_, rfl⟩
  obtain ⟨Y, hY⟩ : ∃ Y, place y = Y := ⟨_, rfl⟩
  have XI : Hid (-536870912 ≤ X ∧ X ≤ 536870912) := Lib.hid (hX ▸ ⟨place_lo x, place_hi x⟩)
  have YI : Hid (-536870912 ≤ Y ∧ Y ≤ 536870912) := Lib.hid (hY ▸ ⟨place_lo y, place_hi y⟩)
  rw [hX, hY]
  rw [← sum_w1 (Int.le_refl Y) (Int.le_refl Y)]
  have SC := Lib.hid (c_sides Y Y h hf)
  have LM : Hid ((sdR Y Y (fun i => (po ys i).ps) ys.length).length ≤ 4194304) := Lib.hid (Nat.le_trans (sd_total (fun i => rfl) _) hf)
  have OK := Lib.hid (sdR_ok Y Y (fun i => (po ys i).ps) ys.length)
  obtain ⟨L, hL⟩ : ∃ L, sdR Y Y (fun i => (po ys i).ps) ys.length = L := ⟨_, rfl⟩
  rw [hL] at SC LM OK ⊢
  obtain ⟨ao, n, cap, rfl⟩ : ∃ ao n cap, v = .slice ao n cap := by obtain ⟨ao, cap, e, _⟩ := h; exact ⟨_, _, _, e⟩
  have HX := Lib.hid hX
  have HY := Lib.hid hY
  clear h hf hL hX hY
  go_enter Try.func13, Try.ntmps13
  go_upto_region 2 with (first | (go_at_call_of 23 x; refine (q_place _ _).mono ?_; rintro e w' ⟨rfl, rfl⟩) | (go_at_call_of 23 y; refine (q_place _ _).mono ?_; rintro e w' ⟨rfl, rfl⟩))
  rw [HX.out, HY.out]
  go_wp2_with fail
  refine SC.out.mono ?_
  rintro e wa ⟨u, rfl, ho, hb⟩
  obtain ⟨al, cl, el⟩ := ho.len
  obtain ⟨M, hM⟩ : ∃ M, L.length = M := ⟨_, rfl⟩
  rw [hM] at el LM
  subst el
  have HS := Lib.hid ho.sl
  have HB := Lib.hid hb
  have HM := Lib.hid hM
  clear ho hb hM
  go_wp2_with fail
  go_loopw [7, 19] (fun s i wr => ∃ k : Nat, k ≤ M ∧ i = .int .i64 k ∧ s = .int .i64 (sumL (fun s => w1 X Y s.1 s.2) (L.take k)) ∧ Below wa.heap.size wa wr) (fun _ i _ => M - (intOf i).toNat)
  case atStart => exact ⟨0, by omega, rfl, rfl, Below.refl _ _⟩
  case round =>
    obtain ⟨k, hk, rfl, rfl, hb⟩ := hrel
    have HBK := Lib.hid hb
    have SI := sumL_in (f := fun s : Sd => w1 X Y s.1 s.2) (fun s => w1_in X Y s.1 s.2) (L.take k)
    have o0 : (M : Int) ≤ 4194304 := by have := LM.out; omega
    rw [List.length_take] at SI
    have S2 : -4194304 ≤ sumL (fun s => w1 X Y s.1 s.2) (L.take k) ∧ sumL (fun s => w1 X Y s.1 s.2) (L.take k) ≤ 4194304 := by omega
    obtain ⟨S, hS⟩ : ∃ S, sumL (fun s => w1 X Y s.1 s.2) (L.take k) = S := ⟨_, rfl⟩
    rw [hS] at S2 ⊢
    have HSU := Lib.hid hS
    clear SI hS hb
    by_cases hlt : k < M
    · have o3 : (k : Int) < M := by omega
      obtain ⟨g, o, e1, row, -⟩ := (HS.out.below HBK.out).row (by omega)
      subst e1
      have hkl : k < L.length := by rw [HM.out]; exact hlt
      have c0 := row.c0 k hkl
      have c1 := row.c1 k hkl
      have c2 := row.c2 k hkl
      have c3 := row.c3 k hkl
      have ok := OK.out _ (sd_mem hkl)
      have ES : Hid (sumL (fun s => w1 X Y s.1 s.2) (L.take (k + 1)) = S + w1 X Y (sd L k).1 (sd L k).2) := Lib.hid (by rw [take_sd hkl, sumL_append, HSU.out]; simp [sumL])
      obtain ⟨s, hs⟩ : ∃ s, sd L k = s := ⟨_, rfl⟩
      rw [hs] at c0 c1 c2 c3 ok ES
      have EW : Hid (w1 X Y s.1 s.2 = if bydP s.1 s.2 X Y = true then wayP s.1 s.2 Y else 0) := Lib.hid (w1_way X Y s.1 s.2)
      have CB := Lib.hid (fun w => c_beyond s X Y ok XI.out YI.out w)
      have CW := Lib.hid (fun w => c_way s Y w)
      have wi := wayP_in s.1 s.2 Y
      obtain ⟨b, hbb⟩ : ∃ b, bydP s.1 s.2 X Y = b := ⟨_, rfl⟩
      obtain ⟨W, hW⟩ : ∃ W, wayP s.1 s.2 Y = W := ⟨_, rfl⟩
      rw [hbb] at CB EW
      rw [hW] at CW EW wi
      obtain ⟨⟨ax, ay⟩, bx, bY⟩ := s
      simp only at c0 c1 c2 c3
      obtain ⟨G, hG⟩ : ∃ G, wr.heap.size = G := ⟨_, rfl⟩
      obtain ⟨V, hV⟩ : ∃ V, wr.alloc (.cells #[.int .i64 ax, .int .i64 ay, .int .i64 bx, .int .i64 bY] 57) = V := ⟨_, rfl⟩
      have kg : Has V G #[.int .i64 ax, .int .i64 ay, .int .i64 bx, .int .i64 bY] 57 := by rw [← hV]; exact has_new hG
      have bV : Below wr.heap.size wr V := by rw [← hV]; exact (Below.refl _ _).alloc (Nat.le_refl _) _
      have KG := Lib.hid kg
      have BV := Lib.hid (HBK.out.trans (bV.mono HBK.out.size))
      have HV := Lib.hid hV
      clear row hs ok hbb hW kg bV hV hkl
      go_upto_region 6 with fail
      rw [HV.out]
      clear hG c0 c1 c2 c3
      have g0 := KG.out.cell 0 _ rfl
      have g1 := KG.out.cell 1 _ rfl
      have g2 := KG.out.cell 2 _ rfl
      have g3 := KG.out.cell 3 _ rfl
      go_wp2_with fail
      refine (CB.out _).mono ?_
      rintro e w2 ⟨rfl, hb2⟩
      have K2 := Lib.hid (KG.out.below hb2 KG.out.lt)
      have B2 := Lib.hid (BV.out.trans (hb2.mono BV.out.size))
      clear g0 g1 g2 g3 hb2
      cases b
      · have E : Hid (sumL (fun s => w1 X Y s.1 s.2) (L.take (k + 1)) = S) := Lib.hid (by rw [ES.out, EW.out]; simp)
        go_wp2
        go_roundw
        case rel => exact ⟨k + 1, by omega, by go_num, by rw [E.out], B2.out⟩
        case measure => simp [intOf]; omega
      · have E : Hid (sumL (fun s => w1 X Y s.1 s.2) (L.take (k + 1)) = S + W) := Lib.hid (by rw [ES.out, EW.out]; simp)
        have g0 := K2.out.cell 0 _ rfl
        have g1 := K2.out.cell 1 _ rfl
        have g2 := K2.out.cell 2 _ rfl
        have g3 := K2.out.cell 3 _ rfl
        go_wp2_with fail
        refine (CW.out _).mono ?_
        rintro e w3 ⟨rfl, hb3⟩
        have B3 := Lib.hid (B2.out.trans (hb3.mono B2.out.size))
        clear g0 g1 g2 g3 hb3
        go_wp2
        go_roundw
        case rel => exact ⟨k + 1, by omega, by go_num, by rw [E.out], B3.out⟩
        case measure => simp [intOf]; omega
    · obtain rfl : k = M := by omega
      have o3 : ¬ (k : Int) < k := by omega
      have E : Hid (sumL (fun s => w1 X Y s.1 s.2) L = S) := Lib.hid (by have := HSU.out; rw [List.take_of_length_le (by rw [HM.out]; exact Nat.le_refl _)] at this; exact this)
      go_wp2
      go_ret
      exact ⟨by rw [E.out]; rfl, HB.out.trans (HBK.out.mono HB.out.size)⟩

end Go.Proofs.Ytopepgifhnfbiaa

namespace Go.Proofs.Ytopepgifhnfbiaa
open Go Go.RowKit
open M

set_option maxRecDepth 100000 in
set_option maxHeartbeats 4000000 in
theorem c_at {v : Value} {ys : List Po} {w : World} (rule x y : Int) (h : Ysl w v ys) (hf : (ptsN ys ys.length).length ≤ 4194304) :
    Calls Try.prog 15 #[v, .int .i64 rule, .int .i64 x, .int .i64 y] w fun r w' => r = .returned (.int .i64 (covY rule x y ys : Nat)) ∧ Below w.heap.size w w' := by
  have HS := Lib.hid h
  have HC := Lib.hid hf
  clear h hf
  by_cases hx : nearB x = true
  · by_cases hy : nearB y = true
    · obtain ⟨x0, x1⟩ := nearB_iff.1 hx
      obtain ⟨y0, y1⟩ := nearB_iff.1 hy
      have EC : Hid (covY rule x y ys = covN (fun a b => windY a b ys) rule x y 16) := Lib.hid (by unfold covY covL; rw [hx, hy]; rfl)
      rw [EC.out]
      have WC := Lib.hid (fun (a b : Int) (w1 : World) (hb : Below w.heap.size w w1) => c_wind a b (HS.out.below hb) HC.out)
      obtain ⟨W, hW⟩ : ∃ W, (fun a b => windY a b ys) = W := ⟨_, rfl⟩
      have eW : ∀ a b, windY a b ys = W a b := fun a b => by rw [← hW]
      simp only [eW] at WC
      rw [hW]
      have XN := Lib.hid (show nearB x = true from hx)
      have YN := Lib.hid (show nearB y = true from hy)
      clear hW eW EC hx hy HS HC
      go_enter Try.func15, Try.ntmps15
      go_wp2_with (first | (go_at_call_of 28 x; refine (c_asked x _).mono ?_; rintro e w' ⟨rfl, rfl⟩; rw [XN.out]) | (go_at_call_of 28 y; refine (c_asked y _).mono ?_; rintro e w' ⟨rfl, rfl⟩; rw [YN.out]))
      go_loopw [9, 19] (fun s i wr => ∃ k : Nat, k ≤ 16 ∧ i = .int .i64 k ∧ s = .int .i64 (covN W rule x y k : Nat) ∧ Below w.heap.size w wr) (fun _ i _ => 16 - (intOf i).toNat)
      case atStart => exact ⟨0, by omega, rfl, rfl, Below.refl _ _⟩
      case round =>
        obtain ⟨k, hk, rfl, rfl, hb⟩ := hrel
        have HB := Lib.hid hb
        have hcn := covN_le W rule x y k
        have hst : covN W rule x y (k + 1) = covN W rule x y k + if countB rule (W (smpX x k) (smpY y k)) = true then 1 else 0 := rfl
        obtain ⟨n, hn⟩ : ∃ n, covN W rule x y k = n := ⟨_, rfl⟩
        rw [hn] at hcn hst ⊢
        have HN := Lib.hid hn
        clear hn
        by_cases hlt : k < 16
        · have o3 : (k : Int) < 16 := by omega
          obtain ⟨W0, hW0⟩ : ∃ z, W (smpX x k) (smpY y k) = z := ⟨_, rfl⟩
          have ST := Lib.hid hst
          have r0 : 0 ≤ Int.tmod (k : Int) 4 ∧ Int.tmod (k : Int) 4 ≤ 3 := by rw [Int.tmod_eq_emod_of_nonneg (by omega)]; omega
          have d0 : 0 ≤ Int.tdiv (k : Int) 4 ∧ Int.tdiv (k : Int) 4 ≤ 3 := by rw [Int.tdiv_eq_ediv_of_nonneg (by omega)]; omega
          have ex : x * 65536 + Int.tmod (k : Int) 4 * 16384 + 8192 = smpX x k := by unfold smpX; rw [Int.tmod_eq_emod_of_nonneg (by omega)]; omega
          have ey : y * 65536 + Int.tdiv (k : Int) 4 * 16384 + 8192 = smpY y k := by unfold smpY; rw [Int.tdiv_eq_ediv_of_nonneg (by omega)]; omega
          obtain ⟨p, hp⟩ : ∃ p, Int.tmod (k : Int) 4 = p := ⟨_, rfl⟩
          obtain ⟨q, hq⟩ : ∃ q, Int.tdiv (k : Int) 4 = q := ⟨_, rfl⟩
          rw [hp] at r0 ex
          rw [hq] at d0 ey
          have P1 := Lib.hid (fun w => c_place (x := x) (c := p) (by omega) (by omega) r0.1 (by omega) w)
          have P2 := Lib.hid (fun w => c_place (x := y) (c := q) (by omega) (by omega) d0.1 (by omega) w)
          rw [ex] at P1
          rw [ey] at P2
          have HW0 := Lib.hid hW0
          have CI := Lib.hid (fun w => c_within rule W0 w)
          obtain ⟨b, hb2⟩ : ∃ b, countB rule W0 = b := ⟨_, rfl⟩
          rw [HW0.out, hb2] at ST
          rw [hb2] at CI
          obtain ⟨q0, q3⟩ := d0
          clear ex ey hst hW0 r0 hb2
          go_upto_region 7 with fail
          go_wp2_with fail
          refine (P1.out _).mono ?_
          rintro e w' ⟨rfl, rfl⟩
          go_wp2_with fail
          refine (P2.out _).mono ?_
          rintro e w' ⟨rfl, rfl⟩
          go_wp2_with fail
          refine (WC.out _ _ _ HB.out).mono ?_
          rintro e w2 ⟨rfl, b2⟩
          rw [HW0.out]
          go_wp2_with fail
          refine (CI.out _).mono ?_
          rintro e w3 ⟨rfl, rfl⟩
          have BW : Hid (Below w.heap.size w w2) := Lib.hid (HB.out.trans (b2.mono HB.out.size))
          clear b2 hb
          cases b
          · have E := ST.out
            simp only [Bool.false_eq_true, if_false, Nat.add_zero] at E
            go_wp2
            go_roundw
            case rel => exact ⟨k + 1, by omega, by go_num, by first | (rw [E]; done) | (rw [E]; go_num), BW.out⟩
            case measure => simp [intOf]; omega
          · have E := ST.out
            simp only [if_true] at E
            go_wp2
            go_roundw
            case rel => exact ⟨k + 1, by omega, by go_num, by first | (rw [E]; done) | (rw [E]; go_num), BW.out⟩
            case measure => simp [intOf]; omega
        · obtain rfl : k = 16 := by omega
          have o3 : ¬ ((16 : Nat) : Int) < 16 := by omega
          go_wp2
          go_ret
          exact ⟨by rw [HN.out]; rfl, hb⟩
    · have e : covY rule x y ys = 0 := by unfold covY covL; rw [Bool.eq_false_iff.2 hy]; simp
      rw [e]
      have XN := Lib.hid (show nearB x = true from hx)
      have YN := Lib.hid (Bool.eq_false_iff.2 hy)
      clear e hx hy
      go_enter Try.func15, Try.ntmps15
      go_wp2_with (first | (go_at_call_of 28 x; refine (c_asked x _).mono ?_; rintro e w' ⟨rfl, rfl⟩; rw [XN.out]) | (go_at_call_of 28 y; refine (c_asked y _).mono ?_; rintro e w' ⟨rfl, rfl⟩; rw [YN.out]))
      go_ret
      exact ⟨rfl, Below.refl _ _⟩
  · have e : covY rule x y ys = 0 := by unfold covY covL; rw [Bool.eq_false_iff.2 hx]; simp
    rw [e]
    have XN := Lib.hid (Bool.eq_false_iff.2 hx)
    clear e hx
    go_enter Try.func15, Try.ntmps15
    go_wp2_with (first | (go_at_call_of 28 x; refine (c_asked x _).mono ?_; rintro e w' ⟨rfl, rfl⟩; rw [XN.out]))
    go_ret
    exact ⟨rfl, Below.refl _ _⟩

end Go.Proofs.Ytopepgifhnfbiaa

namespace Go.Proofs.Ytopepgifhnfbiaa
open Go Go.RowKit
open M

def one15 : List Pt := [⟨0, 0⟩, ⟨65536, 0⟩, ⟨65536, 65536⟩, ⟨0, 65536⟩]
def half15 : List Pt := [⟨0, 0⟩, ⟨32768, 0⟩, ⟨32768, 65536⟩, ⟨0, 65536⟩]
theorem kn15_a : covL (fun a b => 0 + windP (place a) (place b) one15) 0 0 0 = 16 := by decide +kernel
theorem kn15_b : covL (fun a b => 0 + windP (place a) (place b) half15) 1 0 0 = 8 := by decide +kernel
theorem kn15_c : covL (fun a b => 0 + windP (place a) (place b) one15) 0 1 0 = 0 := by decide +kernel
theorem kn15_d : covL (fun a b => 0 + windP (place a) (place b) one15) 7 0 0 = 0 := by decide +kernel
theorem kn15_e : (0 : Int) + windP (place 5) (place 5) one15 = 1 := by decide +kernel

theorem known15 (w : World) : Calls Try.prog 11 #[] w fun e w' => e = .returned (.bool true) ∧ Below w.heap.size w w' := by
  obtain ⟨B, hB⟩ : ∃ B, w.heap.size = B := ⟨_, rfl⟩
  obtain ⟨W1, hW1⟩ : ∃ W, (w.alloc (.cells #[.int .i64 0, .int .i64 0, .int .i64 65536, .int .i64 0, .int .i64 65536, .int .i64 65536, .int .i64 0, .int .i64 65536] 28)).alloc (.cells #[.bool false, .slice (some ⟨B, 0, none⟩) 4 4] 31) = W := ⟨_, rfl⟩
  obtain ⟨ha, hr, hb0⟩ := has_old hW1
  rw [hB] at ha hr
  have s1 : W1.heap.size = B + 2 := by rw [← hW1]; simp [hB]
  have hp : Psl W1 (.slice (some ⟨B, 0, none⟩) 4 4) one15 := psl_lit 4 4 rfl (by decide) ha rfl
  have hy := ysl_one hp hr
  obtain ⟨W2, hW2⟩ : ∃ W, (W1.alloc (.cells #[.int .i64 0, .int .i64 0, .int .i64 32768, .int .i64 0, .int .i64 32768, .int .i64 65536, .int .i64 0, .int .i64 65536] 28)).alloc (.cells #[.bool false, .slice (some ⟨B + 2, 0, none⟩) 4 4] 31) = W := ⟨_, rfl⟩
  obtain ⟨hc, hd, hb1⟩ := has_old hW2
  rw [s1] at hc hd
  have hq : Psl W2 (.slice (some ⟨B + 2, 0, none⟩) 4 4) half15 := psl_lit 4 4 rfl (by decide) hc rfl
  have hz := ysl_one hq hd
  have hy2 := hy.below hb1
  have B0 := Lib.hid (hb0.trans (hb1.mono hb0.size))
  have D0 : Hid (Below W2.heap.size W2 W2) := Lib.hid (Below.refl _ _)
  have EA := Lib.hid (fun (rule x y : Int) (w1 : World) (hb : Below W2.heap.size W2 w1) => c_at rule x y (hy2.below hb) (few_one (by decide)))
  have EH := Lib.hid (fun (rule x y : Int) (w1 : World) (hb : Below W2.heap.size W2 w1) => c_at rule x y (hz.below hb) (few_one (by decide)))
  have EW := Lib.hid (fun (x y : Int) (w1 : World) (hb : Below W2.heap.size W2 w1) => c_wind x y (hy2.below hb) (few_one (by decide)))
  have HW1 := Lib.hid hW1
  have HW2 := Lib.hid hW2
  have S1 := Lib.hid s1
  clear ha hr hb0 hp hy hc hd hb1 hq hz hy2 hW1 hW2 s1
  go_enter Try.func11, Try.ntmps11
  go_upto_region 2 with fail
  rw [HW1.out]
  clear hB
  have s1 := S1.out
  go_upto_region 3 with fail
  rw [HW2.out]
  clear s1
  have E1 := Lib.hid (EA.out 0 0 0 _ D0.out)
  rw [show covY 0 0 0 [(⟨false, .slice (some ⟨B, 0, none⟩) 4 4, one15⟩ : Po)] = 16 from kn15_a] at E1
  go_wp2_with fail
  refine E1.out.mono ?_
  rintro r X1 ⟨rfl, h1⟩
  have D1 := Lib.hid (D0.out.trans (h1.mono D0.out.size))
  clear h1 E1
  have E1 := Lib.hid (EH.out 1 0 0 _ D1.out)
  rw [show covY 1 0 0 [(⟨false, .slice (some ⟨B + 2, 0, none⟩) 4 4, half15⟩ : Po)] = 8 from kn15_b] at E1
  go_wp2_with fail
  refine E1.out.mono ?_
  rintro r X2 ⟨rfl, h1⟩
  have D2 := Lib.hid (D1.out.trans (h1.mono D1.out.size))
  clear h1 E1
  have E1 := Lib.hid (EA.out 0 1 0 _ D2.out)
  rw [show covY 0 1 0 [(⟨false, .slice (some ⟨B, 0, none⟩) 4 4, one15⟩ : Po)] = 0 from kn15_c] at E1
  go_wp2_with fail
  refine E1.out.mono ?_
  rintro r X3 ⟨rfl, h1⟩
  have D3 := Lib.hid (D2.out.trans (h1.mono D2.out.size))
  clear h1 E1
  have E1 := Lib.hid (EA.out 7 0 0 _ D3.out)
  rw [show covY 7 0 0 [(⟨false, .slice (some ⟨B, 0, none⟩) 4 4, one15⟩ : Po)] = 0 from kn15_d] at E1
  go_wp2_with fail
  refine E1.out.mono ?_
  rintro r X4 ⟨rfl, h1⟩
  have D4 := Lib.hid (D3.out.trans (h1.mono D3.out.size))
  clear h1 E1
  have E1 := Lib.hid (EW.out 5 5 _ D4.out)
  rw [show windY 5 5 [(⟨false, .slice (some ⟨B, 0, none⟩) 4 4, one15⟩ : Po)] = 1 from kn15_e] at E1
  go_wp2_with fail
  refine E1.out.mono ?_
  rintro r X5 ⟨rfl, h1⟩
  have D5 := Lib.hid (D4.out.trans (h1.mono D4.out.size))
  clear h1 E1
  go_wp2
  go_ret
  exact ⟨rfl, B0.out.trans (D5.out.mono B0.out.size)⟩

end Go.Proofs.Ytopepgifhnfbiaa

namespace Go.Proofs.Ytopepgifhnfbiaa
open Go.RowKit
open M

/-- What Within answers: the number itself where it lies there, else one that lies there. -/
def winI (x lo hi : Int) : Int := if lo ≤ x ∧ x ≤ hi then x else if x.tmod (hi - lo + 1) < 0 then lo + (x.tmod (hi - lo + 1) + hi - lo + 1) else lo + x.tmod (hi - lo + 1)
theorem winI_in (x : Int) {lo hi : Int} (h : lo ≤ hi) : lo ≤ winI x lo hi ∧ winI x lo hi ≤ hi := by
  have b := tmod_bd x (hi - lo + 1) (by omega)
  unfold winI
  split
  · assumption
  · split <;> omega
theorem b_win (x lo hi : Int) (h1 : -1000 ≤ lo) (h2 : lo ≤ hi) (h3 : hi ≤ 1000) (w : World) :
    Calls Try.prog 12 #[.int .i64 x, .int .i64 lo, .int .i64 hi] w fun e w' => e = .returned (.int .i64 (winI x lo hi)) ∧ w = w' := by
  by_cases h : lo ≤ x ∧ x ≤ hi
  · rw [show winI x lo hi = x by unfold winI; rw [if_pos h]]
    obtain ⟨h0, h4⟩ := h
    go_enter Try.func12, Try.ntmps12
    go_wp2
    go_ret
    exact ⟨rfl, rfl⟩
  · obtain ⟨m, hm⟩ : ∃ m, hi - lo + 1 = m := ⟨_, rfl⟩
    obtain ⟨T, hT, T0, T1⟩ : ∃ T, x.tmod m = T ∧ -m < T ∧ T < m := ⟨_, rfl, (tmod_bd _ _ (by omega)).1, (tmod_bd _ _ (by omega)).2⟩
    have m0 : ¬ m = 0 := by omega
    have hv : winI x lo hi = if T < 0 then lo + (T + hi - lo + 1) else lo + T := by unfold winI; rw [if_neg h, hm, hT]
    have h' : x < lo ∨ hi < x := by omega
    rw [hv]
    clear h hv
    rcases h' with h | h
    · by_cases hn : T < 0
      · rw [if_pos hn]
        go_enter Try.func12, Try.ntmps12
        go_wp2
        go_ret
        exact ⟨ret_int (by omega), rfl⟩
      · rw [if_neg hn]
        go_enter Try.func12, Try.ntmps12
        go_wp2
        go_ret
        exact ⟨ret_int (by omega), rfl⟩
    · have h0 : lo ≤ x := by omega
      by_cases hn : T < 0
      · rw [if_pos hn]
        go_enter Try.func12, Try.ntmps12
        go_wp2
        go_ret
        exact ⟨ret_int (by omega), rfl⟩
      · rw [if_neg hn]
        go_enter Try.func12, Try.ntmps12
        go_wp2
        go_ret
        exact ⟨ret_int (by omega), rfl⟩

end Go.Proofs.Ytopepgifhnfbiaa

namespace Go.Proofs.Ytopepgifhnfbiaa
open Go Go.RowKit
open M

/-- A list of one poly and one of it twice, laid one behind the other. -/
theorem whole_a {V : World} {l : Value} {ps : List Pt} {t : TypeId} (c : Bool) (hp : Psl V l ps) :
    Ysl ((V.alloc (.cells #[.bool c, l] t)).alloc (.cells #[.bool c, l, .bool c, l] t)).drew (.slice (some ⟨V.heap.size, 0, none⟩) 1 1) [⟨c, l, ps⟩] ∧
    Ysl ((V.alloc (.cells #[.bool c, l] t)).alloc (.cells #[.bool c, l, .bool c, l] t)).drew (.slice (some ⟨V.heap.size + 1, 0, none⟩) 2 2) [⟨c, l, ps⟩, ⟨c, l, ps⟩] ∧
    Below V.heap.size V ((V.alloc (.cells #[.bool c, l] t)).alloc (.cells #[.bool c, l, .bool c, l] t)).drew := by
  have hb : Below V.heap.size V ((V.alloc (.cells #[.bool c, l] t)).alloc (.cells #[.bool c, l, .bool c, l] t)).drew := below_drew (((Below.refl _ _).alloc (Nat.le_refl _) _).alloc (by simp) _)
  have h2 := hp.below hb (Nat.le_refl _)
  exact ⟨ysl_one h2 ((has_new rfl).alloc _).drew, ysl_two h2 h2 (has_new (by simp)).drew, hb⟩
theorem whole_b {V : World} {l : Value} {ps : List Pt} {t : TypeId} (c : Bool) (hp : Psl V l ps) :
    Ysl ((V.alloc (.cells #[.bool c, l, .bool c, l] t)).alloc (.cells #[.bool c, l] t)).drew (.slice (some ⟨V.heap.size + 1, 0, none⟩) 1 1) [⟨c, l, ps⟩] ∧
    Ysl ((V.alloc (.cells #[.bool c, l, .bool c, l] t)).alloc (.cells #[.bool c, l] t)).drew (.slice (some ⟨V.heap.size, 0, none⟩) 2 2) [⟨c, l, ps⟩, ⟨c, l, ps⟩] ∧
    Below V.heap.size V ((V.alloc (.cells #[.bool c, l, .bool c, l] t)).alloc (.cells #[.bool c, l] t)).drew := by
  have hb : Below V.heap.size V ((V.alloc (.cells #[.bool c, l, .bool c, l] t)).alloc (.cells #[.bool c, l] t)).drew := below_drew (((Below.refl _ _).alloc (Nat.le_refl _) _).alloc (by simp) _)
  have h2 := hp.below hb (Nat.le_refl _)
  exact ⟨ysl_one h2 (has_new (by simp)).drew, ysl_two h2 h2 ((has_new rfl).alloc _).drew, hb⟩

set_option maxRecDepth 100000 in
set_option maxHeartbeats 8000000 in
theorem coverWhole_walk (b0 b1 b2 b3 x y : Int) (_ : (Lit.int .i64 b0).wf = true) (_ : (Lit.int .i64 b1).wf = true) (_ : (Lit.int .i64 b2).wf = true) (_ : (Lit.int .i64 b3).wf = true) (_ : (Lit.int .i64 x).wf = true) (_ : (Lit.int .i64 y).wf = true) (w : World) :
    Calls Try.prog 5 #[.agg #[.int .i64 b0, .int .i64 b1, .int .i64 b2, .int .i64 b3], .int .i64 x, .int .i64 y] w fun e w' => e = .returned (.bool true) ∧ Below w.heap.size w w' := by
  obtain ⟨W, hW⟩ : ∃ W, w.alloc (.cells #[.int .i64 b0, .int .i64 b1, .int .i64 b2, .int .i64 b3] 41) = W := ⟨_, rfl⟩
  have hk : Has W w.heap.size #[.int .i64 b0, .int .i64 b1, .int .i64 b2, .int .i64 b3] 41 := by rw [← hW]; exact has_new rfl
  have bW : Below w.heap.size w W := by rw [← hW]; exact (Below.refl _ _).alloc (Nat.le_refl _) _
  obtain ⟨B, hB⟩ : ∃ B, w.heap.size = B := ⟨_, rfl⟩
  rw [hB] at hk
  have HK := Lib.hid hk
  have BW := Lib.hid bW
  have HW := Lib.hid hW
  clear hk bW hW
  go_enter Try.func5, Try.ntmps5
  go_upto_region 1 with fail
  rw [HW.out]
  clear hB
  have a0 := HK.out.cell 0 _ rfl
  have a1 := HK.out.cell 1 _ rfl
  go_quiet (first | (go_at_call_of 12 b0; exact quiet1 (b_win b0 (-20) 20 (by decide) (by decide) (by decide) _)) | (go_at_call_of 12 b1; exact quiet1 (b_win b1 (-20) 20 (by decide) (by decide) (by decide) _)))
  obtain ⟨W1, hW1⟩ : ∃ Z, W.drewN nq = Z := ⟨_, rfl⟩
  have bW1 : Below W.heap.size W W1 := by rw [← hW1]; exact below_drewN (Below.refl _ _) _
  rw [hW1]
  have B1 := Lib.hid (BW.out.trans (bW1.mono BW.out.size))
  have K1 := HK.out.below bW1 HK.out.lt
  clear a0 a1 hW1 bW1
  have a2 := K1.cell 2 _ rfl
  have a3 := K1.cell 3 _ rfl
  have x0i := winI_in b0 (lo := -20) (hi := 20) (by decide)
  have y0i := winI_in b1 (lo := -20) (hi := 20) (by decide)
  obtain ⟨x0, hx0⟩ : ∃ z, winI b0 (-20) 20 = z := ⟨_, rfl⟩
  obtain ⟨y0, hy0⟩ : ∃ z, winI b1 (-20) 20 = z := ⟨_, rfl⟩
  rw [hx0] at x0i ⊢
  rw [hy0] at y0i ⊢
  have u0 := winI_in b2 (lo := 0) (hi := 20) (by decide)
  have u1 := winI_in b3 (lo := 0) (hi := 20) (by decide)
  clear hx0 hy0 K1
  go_upto_region 2 with fail
  go_quiet (first | (go_at_call_of 12 b2; exact quiet1 (b_win b2 0 20 (by decide) (by decide) (by decide) _)) | (go_at_call_of 12 b3; exact quiet1 (b_win b3 0 20 (by decide) (by decide) (by decide) _)))
  obtain ⟨W2, hW2⟩ : ∃ Z, W1.drewN nq = Z := ⟨_, rfl⟩
  have B2 := Lib.hid (show Below w.heap.size w W2 by rw [← hW2]; exact below_drewN B1.out _)
  rw [hW2]
  clear a2 a3 hW2
  obtain ⟨x1, hx1⟩ : ∃ z, x0 + winI b2 0 20 = z := ⟨_, rfl⟩
  obtain ⟨y1, hy1⟩ : ∃ z, y0 + winI b3 0 20 = z := ⟨_, rfl⟩
  rw [hx1, hy1]
  have xi : x0 ≤ x1 ∧ x1 ≤ 40 := by omega
  have yi : y0 ≤ y1 ∧ y1 ≤ 40 := by omega
  clear hx1 hy1 u0 u1
  go_upto_region 3 with fail
  obtain ⟨G, hG⟩ : ∃ G, W2.heap.size = G := ⟨_, rfl⟩
  obtain ⟨V, hV⟩ : ∃ V, (W2.alloc (.cells #[.int .i64 (x0 * 65536), .int .i64 (y0 * 65536), .int .i64 (x1 * 65536), .int .i64 (y0 * 65536), .int .i64 (x1 * 65536), .int .i64 (y1 * 65536), .int .i64 (x0 * 65536), .int .i64 (y1 * 65536)] 28)).alloc (.cells #[.bool true, .slice (some ⟨G, 0, none⟩) 4 4] 31) = V := ⟨_, rfl⟩
  obtain ⟨ha, hr, hbV⟩ := has_old hV
  rw [hG] at ha hr
  have hp : Psl V (.slice (some ⟨G, 0, none⟩) 4 4) (rectP x0 y0 x1 y1) := psl_lit 4 4 rfl (by decide) ha rfl
  have KV := Lib.hid hr
  have PV := Lib.hid hp
  have BV := Lib.hid (B2.out.trans (hbV.mono B2.out.size))
  have HV := Lib.hid hV
  clear ha hr hbV hp hV
  go_upto_region 4 with fail
  rw [HV.out]
  clear hG
  have pxi := winI_in x (lo := -25) (hi := 45) (by decide)
  have pyi := winI_in y (lo := -25) (hi := 45) (by decide)
  go_upto_region 5 with (first | (go_at_call_of 12 x; refine (b_win x (-25) 45 (by decide) (by decide) (by decide) _).mono ?_; rintro e w' ⟨rfl, rfl⟩) | (go_at_call_of 12 y; refine (b_win y (-25) 45 (by decide) (by decide) (by decide) _).mono ?_; rintro e w' ⟨rfl, rfl⟩))
  obtain ⟨px, hpx⟩ : ∃ z, winI x (-25) 45 = z := ⟨_, rfl⟩
  obtain ⟨py, hpy⟩ : ∃ z, winI y (-25) 45 = z := ⟨_, rfl⟩
  rw [hpx] at pxi ⊢
  rw [hpy] at pyi ⊢
  clear hpx hpy
  obtain ⟨WT, hWT⟩ : ∃ n : Nat, (if x0 ≤ px ∧ px < x1 ∧ y0 ≤ py ∧ py < y1 then 16 else 0) = n := ⟨_, rfl⟩
  have HWT := Lib.hid hWT
  clear hWT
  have five : (x0 ≤ px ∧ px < x1 ∧ y0 ≤ py ∧ py < y1 ∧ WT = 16) ∨ (x0 ≤ px ∧ px < x1 ∧ y0 ≤ py ∧ y1 ≤ py ∧ WT = 0) ∨ (x0 ≤ px ∧ px < x1 ∧ py < y0 ∧ WT = 0) ∨ (x0 ≤ px ∧ x1 ≤ px ∧ WT = 0) ∨ (px < x0 ∧ WT = 0) := by
    have e := HWT.out
    by_cases h : x0 ≤ px ∧ px < x1 ∧ y0 ≤ py ∧ py < y1
    · rw [if_pos h] at e; omega
    · rw [if_neg h] at e; omega
  have IN := Lib.hid (And.intro x0i (And.intro y0i (And.intro xi (And.intro yi (And.intro pxi pyi)))))
  rcases five with ⟨h1, h2, h3, h4, h5⟩ | ⟨h1, h2, h3, h4, h5⟩ | ⟨h1, h2, h3, h5⟩ | ⟨h1, h2, h5⟩ | ⟨h1, h5⟩
  all_goals
    subst h5
    go_upto_region 8 with fail
    try clear h4
    try clear h3
    try clear h2
    clear h1 x0i y0i xi yi pxi pyi
    have WA := Lib.hid (whole_a (t := 31) true PV.out)
    have WB := Lib.hid (whole_b (t := 31) true PV.out)
    obtain ⟨QA, hQA⟩ : ∃ Q, ((V.alloc (.cells #[.bool true, .slice (some ⟨G, 0, none⟩) 4 4] 31)).alloc (.cells #[.bool true, .slice (some ⟨G, 0, none⟩) 4 4, .bool true, .slice (some ⟨G, 0, none⟩) 4 4] 31)).drew = Q := ⟨_, rfl⟩
    obtain ⟨QB, hQB⟩ : ∃ Q, ((V.alloc (.cells #[.bool true, .slice (some ⟨G, 0, none⟩) 4 4, .bool true, .slice (some ⟨G, 0, none⟩) 4 4] 31)).alloc (.cells #[.bool true, .slice (some ⟨G, 0, none⟩) 4 4] 31)).drew = Q := ⟨_, rfl⟩
    rw [hQA] at WA
    rw [hQB] at WB
    have HQA := Lib.hid hQA
    have HQB := Lib.hid hQB
    clear hQA hQB
    have c0 := KV.out.cell 0 _ rfl
    have c1 := KV.out.cell 1 _ rfl
    have f0 := fun ob => (KV.out.alloc ob).cell 0 _ rfl
    have f1 := fun ob => (KV.out.alloc ob).cell 1 _ rfl
    have g0 := fun ob ob' => ((KV.out.alloc ob).alloc ob').cell 0 _ rfl
    have g1 := fun ob ob' => ((KV.out.alloc ob).alloc ob').cell 1 _ rfl
    go_cut [15, 16] (fun s t wx => ∃ u v, s = .slice (some ⟨u, 0, none⟩) 1 1 ∧ t = .slice (some ⟨v, 0, none⟩) 2 2 ∧ Ysl wx (.slice (some ⟨u, 0, none⟩) 1 1) [⟨true, .slice (some ⟨G, 0, none⟩) 4 4, rectP x0 y0 x1 y1⟩] ∧ Ysl wx (.slice (some ⟨v, 0, none⟩) 2 2) [⟨true, .slice (some ⟨G, 0, none⟩) 4 4, rectP x0 y0 x1 y1⟩, ⟨true, .slice (some ⟨G, 0, none⟩) 4 4, rectP x0 y0 x1 y1⟩] ∧ Below w.heap.size w wx)
    case first =>
      go_region
      all_goals
        first | rw [HQA.out] | rw [HQB.out]
        go_wp2_with fail
        go_meet
        case rel => first | exact ⟨_, _, rfl, rfl, WA.out.1, WA.out.2.1, BV.out.trans (WA.out.2.2.mono BV.out.size)⟩ | exact ⟨_, _, rfl, rfl, WB.out.1, WB.out.2.1, BV.out.trans (WB.out.2.2.mono BV.out.size)⟩
    case rest =>
      obtain ⟨u, v, rfl, rfl, y1', y2', hb⟩ := hcut
      rename World => X
      have D0 : Hid (Below X.heap.size X X) := Lib.hid (Below.refl _ _)
      have EA := Lib.hid (fun (rule : Int) (w1 : World) (hb : Below X.heap.size X w1) => c_at rule px py (y1'.below hb) (by simp [ptsN, po, rectP]))
      have EB := Lib.hid (fun (rule : Int) (w1 : World) (hb : Below X.heap.size X w1) => c_at rule px py (y2'.below hb) (by simp [ptsN, po, rectP]))
      obtain ⟨⟨i0, i1⟩, ⟨i2, i3⟩, ⟨i4, i5⟩, ⟨i6, i7⟩, ⟨i8, i9⟩, i10, i11⟩ := IN.out
      have RA := fun rule => rect_cov (x0 := x0) (y0 := y0) (x1 := x1) (y1 := y1) (px := px) (py := py) (rule := rule) (m := 1) (ys := [⟨true, .slice (some ⟨G, 0, none⟩) 4 4, rectP x0 y0 x1 y1⟩]) (by omega) i4 (by omega) (by omega) i6 (by omega) (by omega) (by omega) (by omega) (by omega) (fun a b => by rw [windY_one, Int.one_mul])
      have RB := fun rule => rect_cov (x0 := x0) (y0 := y0) (x1 := x1) (y1 := y1) (px := px) (py := py) (rule := rule) (m := 2) (ys := [⟨true, .slice (some ⟨G, 0, none⟩) 4 4, rectP x0 y0 x1 y1⟩, ⟨true, .slice (some ⟨G, 0, none⟩) 4 4, rectP x0 y0 x1 y1⟩]) (by omega) i4 (by omega) (by omega) i6 (by omega) (by omega) (by omega) (by omega) (by omega) (fun a b => by rw [windY_two]; omega)
      have R1 := RA 0
      have R2 := RA 1
      have R3 := RB 0
      have R4 := RB 1
      rw [if_pos (show countB 0 1 = true by decide), HWT.out] at R1
      rw [if_pos (show countB 1 1 = true by decide), HWT.out] at R2
      rw [if_pos (show countB 0 2 = true by decide), HWT.out] at R3
      rw [if_neg (show ¬ countB 1 2 = true by decide), ite_self] at R4
      have E1 := Lib.hid (EA.out 0)
      have E2 := Lib.hid (EA.out 1)
      have E3 := Lib.hid (EB.out 0)
      have E4 := Lib.hid (EB.out 1)
      rw [R1] at E1
      rw [R2] at E2
      rw [R3] at E3
      rw [R4] at E4
      have HB := Lib.hid hb
      clear RA RB R1 R2 R3 R4 EA EB i0 i1 i2 i3 i4 i5 i6 i7 i8 i9 i10 i11 y1' y2' hb
      go_wp2_with fail
      refine (E1.out _ D0.out).mono ?_
      rintro r X1 ⟨rfl, hq⟩
      have D1 := Lib.hid (D0.out.trans (hq.mono D0.out.size))
      clear hq
      go_wp2_with fail
      refine (E2.out _ D1.out).mono ?_
      rintro r X2 ⟨rfl, hq⟩
      have D2 := Lib.hid (D1.out.trans (hq.mono D1.out.size))
      clear hq
      go_wp2_with fail
      refine (E3.out _ D2.out).mono ?_
      rintro r X3 ⟨rfl, hq⟩
      have D3 := Lib.hid (D2.out.trans (hq.mono D2.out.size))
      clear hq
      go_wp2_with fail
      refine (E4.out _ D3.out).mono ?_
      rintro r X4 ⟨rfl, hq⟩
      have D4 := Lib.hid (D3.out.trans (hq.mono D3.out.size))
      clear hq
      go_wp2_with fail
      refine (known15 _).mono ?_
      rintro r X5 ⟨rfl, hq⟩
      have D5 := Lib.hid (D4.out.trans (hq.mono D4.out.size))
      clear hq
      go_wp2
      go_ret
      exact ⟨rfl, HB.out.trans (D5.out.mono HB.out.size)⟩

end Go.Proofs.Ytopepgifhnfbiaa

namespace Go.Proofs.Ytopepgifhnfbiaa
open Go Go.RowKit Go.Joins Go.ChangeShapes Go.WideShapes Go.Deep

section
variable {H : Type} {enc : TypeId × Value → H} {P : Program} {w : World} {base : Nat} {spare : Nat → Bool} {held : Bool}

def fieldsOf (e : TypeId) (fs : Array Field) : Bool := fs.toList.all fun f => f.type == e
theorem fieldsOf_spec {e : TypeId} {fs : Array Field} (h : fieldsOf e fs = true) (j : Nat) (f : Field) (hj : fs[j]? = some f) : f.type = e := by
  have := List.all_eq_true.1 h f (by rw [Array.mem_toList_iff]; exact Array.mem_of_getElem? hj)
  simpa using this

theorem open_ints {r : Reach} {b0 : Nat} {t e : TypeId} {fs : Array Field} {v : Value} {d : DataW H} {p : List MemPlace} (hs : P.underlying t = some (.struct fs)) (he : P.underlying e = some (.int .i64))
    (hone : oneCellFields P fs = true) (hty : fieldsOf e fs = true) (hC : P.cellsOf t = fs.size) (hv : Value.okWide P w r b0 t v) (h : DataW.Trod enc P w base spare held t v d p) :
    ∃ ns : List Int, ns.length = fs.size ∧ v = .agg (ns.map (Value.int .i64)).toArray ∧ d = .agg (ns.map fun n => .lit (.int .i64 n)) ∧ p = [] ∧ ∀ n ∈ ns, (Lit.int .i64 n).wf = true := by
  obtain ⟨⟨L⟩, rfl, hsz⟩ := okWide_struct hs hv
  obtain ⟨fuel, hf⟩ := h
  obtain ⟨xs, n, _, hx, _, hlen, hg⟩ := DataW.trod_struct hs hf
  have hL : L.length = fs.size := by rw [← hC]; simpa using hsz
  have key : ∀ j, j < fs.size → ∃ a, L[j]? = some (.int .i64 a) ∧ xs[j]? = some (.lit (.int .i64 a), []) ∧ (Lit.int .i64 a).wf = true := by
    intro j hj
    obtain ⟨f, hfj⟩ : ∃ f, fs[j]? = some f := ⟨_, Array.getElem?_eq_getElem hj⟩
    obtain ⟨ho, hk⟩ := hone_of hone j f hfj
    have h1 := hg j f hfj
    rw [ho, hk, fieldsOf_spec hty j f hfj] at h1
    have hjL : j < L.length := by omega
    have hc : (((Value.agg L.toArray).cells.toList).drop j).take 1 = [L[j]] := by
      show (L.drop j).take 1 = [L[j]]
      rw [List.drop_eq_getElem_cons hjL]; rfl
    rw [hc] at h1
    have hxj : xs[j]? = some (xs[j]'(by omega)) := List.getElem?_eq_getElem (by omega)
    rw [hxj] at h1
    obtain ⟨a, ha, hxa, hw⟩ := DataW.trod_int he h1
    have hLa : L[j] = .int .i64 a := by simpa using ha
    exact ⟨a, by rw [List.getElem?_eq_getElem hjL, hLa], by rw [hxj, hxa], hw⟩
  have e1 : (L.map intOf).map (Value.int .i64) = L := by
    apply List.ext_getElem?
    intro j
    by_cases hj : j < fs.size
    · obtain ⟨a, ha, _, _⟩ := key j hj
      simp [List.getElem?_map, ha, intOf]
    · rw [List.getElem?_eq_none (by simp; omega), List.getElem?_eq_none (by omega)]
  have e2 : xs.map (·.1) = (L.map intOf).map fun n => DataW.lit (.int .i64 n) := by
    apply List.ext_getElem?
    intro j
    by_cases hj : j < fs.size
    · obtain ⟨a, ha, hxa, _⟩ := key j hj
      simp [List.getElem?_map, ha, hxa, intOf]
    · rw [List.getElem?_eq_none (by simp; omega), List.getElem?_eq_none (by simp; omega)]
  have e3 : xs.flatMap (·.2) = [] := by
    rw [List.flatMap_eq_nil_iff]
    intro y hy
    obtain ⟨j, hj⟩ := List.mem_iff_getElem?.1 hy
    have hjl : j < fs.size := by have := (List.getElem?_eq_some_iff.1 hj).1; omega
    obtain ⟨a, _, hxa, _⟩ := key j hjl
    rw [hj] at hxa
    rw [Option.some.inj hxa]
  simp only [Prod.mk.injEq] at hx
  refine ⟨L.map intOf, by simpa using hL, by rw [e1], by rw [hx.1, e2], by rw [hx.2, e3], fun m hm => ?_⟩
  obtain ⟨c, hc, rfl⟩ := List.mem_map.1 hm
  obtain ⟨j, hj⟩ := List.mem_iff_getElem?.1 hc
  have hjl : j < fs.size := by have := (List.getElem?_eq_some_iff.1 hj).1; omega
  obtain ⟨a, ha, _, hw⟩ := key j hjl
  rw [hj] at ha
  rw [Option.some.inj ha]
  exact hw

theorem mapM_all {α β : Type} {g : α → Option β} : ∀ (l : List α) (xs : List β), l.length = xs.length → (∀ (i : Nat) a x, l[i]? = some a → xs[i]? = some x → g a = some x) → l.mapM g = some xs
  | [], [], _, _ => by simp
  | [], _ :: _, h, _ => by simp at h
  | _ :: _, [], h, _ => by simp at h
  | a :: l, x :: xs, h, hh => by
    have h0 : g a = some x := hh 0 a x rfl rfl
    have ih := mapM_all l xs (by simpa using h) (fun i b y h1 h2 => hh (i + 1) b y (by simpa using h1) (by simpa using h2))
    simp [List.mapM_cons, h0, ih]

theorem shut_ints {t e : TypeId} {fs : Array Field} {ns : List Int} (hs : P.underlying t = some (.struct fs)) (he : P.underlying e = some (.int .i64))
    (hone : oneCellFields P fs = true) (hty : fieldsOf e fs = true) (hC : P.cellsOf t = fs.size) (hl : ns.length = fs.size) (hw : ∀ n ∈ ns, (Lit.int .i64 n).wf = true) :
    DataW.Trod enc P w base spare held t (.agg (ns.map (Value.int .i64)).toArray) (.agg (ns.map fun n => .lit (.int .i64 n))) [] := by
  have h := trod_struct_mk (enc := enc) (w := w) (base := base) (spare := spare) (held := held) (n := 1) (cs := ns.map (Value.int .i64)) (xs := ns.map fun n => (DataW.lit (.int .i64 n), [])) hs (by simp [hl, hC]) (by
    refine mapM_all _ _ (by simp [hl]) ?_
    intro i f x hf hx
    have hf' : fs[i]? = some f := by simpa using hf
    obtain ⟨ho, hk⟩ := hone_of hone i f hf'
    have hil : i < ns.length := by have := (Array.getElem?_eq_some_iff.1 hf').1; omega
    rw [List.getElem?_map, List.getElem?_eq_getElem hil] at hx
    obtain rfl := Option.some.inj hx
    rw [ho, hk, fieldsOf_spec hty i f hf']
    have hc : ((ns.map (Value.int .i64)).drop i).take 1 = [.int .i64 ns[i]] := by
      rw [List.drop_eq_getElem_cons (by simpa using hil)]
      simp
    rw [hc]
    have hwn := hw ns[i] (List.getElem_mem hil)
    simp [DataW.trod, he, hwn])
  refine ⟨2, ?_⟩
  have e1 : (ns.map fun n => (DataW.lit (H := H) (.int .i64 n), ([] : List MemPlace))).map (·.1) = ns.map fun n => .lit (.int .i64 n) := by simp
  have e2 : (ns.map fun n => (DataW.lit (H := H) (.int .i64 n), ([] : List MemPlace))).flatMap (·.2) = [] := by
    rw [List.flatMap_eq_nil_iff]; intro y hy; obtain ⟨m, _, rfl⟩ := List.mem_map.1 hy; rfl
  rw [e1, e2] at h
  exact h

theorem list2 {l : List Int} (h : l.length = 2) : ∃ n0 n1, l = [n0, n1] := by
  match l, h with
  | [n0, n1], _ => exact ⟨n0, n1, rfl⟩
theorem open_ints2 {r : Reach} {b0 : Nat} {t e : TypeId} {fs : Array Field} {v : Value} {d : DataW H} {p : List MemPlace} (hs : P.underlying t = some (.struct fs)) (he : P.underlying e = some (.int .i64))
    (hone : oneCellFields P fs = true) (hty : fieldsOf e fs = true) (hC : P.cellsOf t = fs.size) (h2 : fs.size = 2) (hv : Value.okWide P w r b0 t v) (h : DataW.Trod enc P w base spare held t v d p) :
    ∃ n0 n1 : Int, v = .agg #[.int .i64 n0, .int .i64 n1] ∧ d = .agg [.lit (.int .i64 n0), .lit (.int .i64 n1)] ∧ p = [] ∧ (Lit.int .i64 n0).wf = true ∧ (Lit.int .i64 n1).wf = true := by
  obtain ⟨ns, hl, hv', hd, hp, hw⟩ := open_ints hs he hone hty hC hv h
  obtain ⟨n0, n1, rfl⟩ := list2 (hl.trans h2)
  exact ⟨n0, n1, hv', hd, hp, hw n0 (by simp), hw n1 (by simp)⟩
theorem shut_ints2 {t e : TypeId} {fs : Array Field} {n0 n1 : Int} (hs : P.underlying t = some (.struct fs)) (he : P.underlying e = some (.int .i64))
    (hone : oneCellFields P fs = true) (hty : fieldsOf e fs = true) (hC : P.cellsOf t = fs.size) (h2 : fs.size = 2) (w0 : (Lit.int .i64 n0).wf = true) (w1 : (Lit.int .i64 n1).wf = true) :
    DataW.Trod enc P w base spare held t (.agg #[.int .i64 n0, .int .i64 n1]) (.agg [.lit (.int .i64 n0), .lit (.int .i64 n1)]) [] :=
  shut_ints (ns := [n0, n1]) hs he hone hty hC h2.symm (by intro m hm; simp at hm; rcases hm with rfl | rfl <;> assumption)
theorem list4 {l : List Int} (h : l.length = 4) : ∃ n0 n1 n2 n3, l = [n0, n1, n2, n3] := by
  match l, h with
  | [n0, n1, n2, n3], _ => exact ⟨n0, n1, n2, n3, rfl⟩
theorem open_ints4 {r : Reach} {b0 : Nat} {t e : TypeId} {fs : Array Field} {v : Value} {d : DataW H} {p : List MemPlace} (hs : P.underlying t = some (.struct fs)) (he : P.underlying e = some (.int .i64))
    (hone : oneCellFields P fs = true) (hty : fieldsOf e fs = true) (hC : P.cellsOf t = fs.size) (h4 : fs.size = 4) (hv : Value.okWide P w r b0 t v) (h : DataW.Trod enc P w base spare held t v d p) :
    ∃ n0 n1 n2 n3 : Int, v = .agg #[.int .i64 n0, .int .i64 n1, .int .i64 n2, .int .i64 n3] ∧ d = .agg [.lit (.int .i64 n0), .lit (.int .i64 n1), .lit (.int .i64 n2), .lit (.int .i64 n3)] ∧ p = [] ∧ (Lit.int .i64 n0).wf = true ∧ (Lit.int .i64 n1).wf = true ∧ (Lit.int .i64 n2).wf = true ∧ (Lit.int .i64 n3).wf = true := by
  obtain ⟨ns, hl, hv', hd, hp, hw⟩ := open_ints hs he hone hty hC hv h
  obtain ⟨n0, n1, n2, n3, rfl⟩ := list4 (hl.trans h4)
  exact ⟨n0, n1, n2, n3, hv', hd, hp, hw n0 (by simp), hw n1 (by simp), hw n2 (by simp), hw n3 (by simp)⟩
theorem shut_ints4 {t e : TypeId} {fs : Array Field} {n0 n1 n2 n3 : Int} (hs : P.underlying t = some (.struct fs)) (he : P.underlying e = some (.int .i64))
    (hone : oneCellFields P fs = true) (hty : fieldsOf e fs = true) (hC : P.cellsOf t = fs.size) (h4 : fs.size = 4) (w0 : (Lit.int .i64 n0).wf = true) (w1 : (Lit.int .i64 n1).wf = true) (w2 : (Lit.int .i64 n2).wf = true) (w3 : (Lit.int .i64 n3).wf = true) :
    DataW.Trod enc P w base spare held t (.agg #[.int .i64 n0, .int .i64 n1, .int .i64 n2, .int .i64 n3]) (.agg [.lit (.int .i64 n0), .lit (.int .i64 n1), .lit (.int .i64 n2), .lit (.int .i64 n3)]) [] :=
  shut_ints (ns := [n0, n1, n2, n3]) hs he hone hty hC h4.symm (by intro m hm; simp at hm; rcases hm with rfl | rfl | rfl | rfl <;> assumption)
theorem list6 {l : List Int} (h : l.length = 6) : ∃ n0 n1 n2 n3 n4 n5, l = [n0, n1, n2, n3, n4, n5] := by
  match l, h with
  | [n0, n1, n2, n3, n4, n5], _ => exact ⟨n0, n1, n2, n3, n4, n5, rfl⟩
theorem open_ints6 {r : Reach} {b0 : Nat} {t e : TypeId} {fs : Array Field} {v : Value} {d : DataW H} {p : List MemPlace} (hs : P.underlying t = some (.struct fs)) (he : P.underlying e = some (.int .i64))
    (hone : oneCellFields P fs = true) (hty : fieldsOf e fs = true) (hC : P.cellsOf t = fs.size) (h6 : fs.size = 6) (hv : Value.okWide P w r b0 t v) (h : DataW.Trod enc P w base spare held t v d p) :
    ∃ n0 n1 n2 n3 n4 n5 : Int, v = .agg #[.int .i64 n0, .int .i64 n1, .int .i64 n2, .int .i64 n3, .int .i64 n4, .int .i64 n5] ∧ d = .agg [.lit (.int .i64 n0), .lit (.int .i64 n1), .lit (.int .i64 n2), .lit (.int .i64 n3), .lit (.int .i64 n4), .lit (.int .i64 n5)] ∧ p = [] ∧ (Lit.int .i64 n0).wf = true ∧ (Lit.int .i64 n1).wf = true ∧ (Lit.int .i64 n2).wf = true ∧ (Lit.int .i64 n3).wf = true ∧ (Lit.int .i64 n4).wf = true ∧ (Lit.int .i64 n5).wf = true := by
  obtain ⟨ns, hl, hv', hd, hp, hw⟩ := open_ints hs he hone hty hC hv h
  obtain ⟨n0, n1, n2, n3, n4, n5, rfl⟩ := list6 (hl.trans h6)
  exact ⟨n0, n1, n2, n3, n4, n5, hv', hd, hp, hw n0 (by simp), hw n1 (by simp), hw n2 (by simp), hw n3 (by simp), hw n4 (by simp), hw n5 (by simp)⟩
theorem shut_ints6 {t e : TypeId} {fs : Array Field} {n0 n1 n2 n3 n4 n5 : Int} (hs : P.underlying t = some (.struct fs)) (he : P.underlying e = some (.int .i64))
    (hone : oneCellFields P fs = true) (hty : fieldsOf e fs = true) (hC : P.cellsOf t = fs.size) (h6 : fs.size = 6) (w0 : (Lit.int .i64 n0).wf = true) (w1 : (Lit.int .i64 n1).wf = true) (w2 : (Lit.int .i64 n2).wf = true) (w3 : (Lit.int .i64 n3).wf = true) (w4 : (Lit.int .i64 n4).wf = true) (w5 : (Lit.int .i64 n5).wf = true) :
    DataW.Trod enc P w base spare held t (.agg #[.int .i64 n0, .int .i64 n1, .int .i64 n2, .int .i64 n3, .int .i64 n4, .int .i64 n5]) (.agg [.lit (.int .i64 n0), .lit (.int .i64 n1), .lit (.int .i64 n2), .lit (.int .i64 n3), .lit (.int .i64 n4), .lit (.int .i64 n5)]) [] :=
  shut_ints (ns := [n0, n1, n2, n3, n4, n5]) hs he hone hty hC h6.symm (by intro m hm; simp at hm; rcases hm with rfl | rfl | rfl | rfl | rfl | rfl <;> assumption)
end

end Go.Proofs.Ytopepgifhnfbiaa

namespace Go.Proofs.Ytopepgifhnfbiaa.coverWhole
open Go.ChangeShapes Go.WideShapes Go.ChangeAt Go.RowKit

theorem post_below {H : Type} {enc : TypeId × Value → H} {P : Program} {f : Func} {s : ChangeSpec} {apart fresh handsOn : Bool} {W V : World} {args : Array Value} {v : Value} {ds gs : List (DataW H)} {before pa pv : List MemPlace}
    (hW : DataW.Whole enc P f.params.toList s.vars apart W args.toList ds gs before)
    (hres : ∀ (b : Nat) (sp : Nat → Bool) (hd : Bool), DataW.TrodAll enc P V b sp hd f.resultTypes.toList (v.resultList f.resultTypes.size) (s.fn H (ds ++ gs)).results [])
    (hargs : ∀ sp : Nat → Bool, (∀ p ∈ before, sp p.block = true) → DataW.TrodAll enc P V 0 sp true f.params.toList args.toList (s.fn H (ds ++ gs)).args pa)
    (hvars : ∀ sp : Nat → Bool, (∀ p ∈ before, sp p.block = true) → DataW.TrodVars enc P V sp s.vars (s.fn H (ds ++ gs)).vars pv)
    (hps : before = pa ++ pv) (hb : Below W.heap.size W V) : s.post enc P f apart fresh handsOn false W args v V := by
  have hl : ∀ p ∈ before, (fun b => decide (b < W.heap.size)) p.block = true := fun p hp => by simpa using hW.lt p hp
  refine ⟨ds, gs, before, [], pa, pv, hW, hres _ _ _, hargs _ hl, hvars _ hl, World.keptBut_mono (fun p hp => ⟨hp, ?_⟩) (hb.frame (· ∈ before)), fun h => by cases h⟩
  rw [hps, List.mem_append] at hp
  exact Or.inr hp

theorem own : ownKnob Try.prog.godebug = none := by kernel_rfl

set_option maxRecDepth 100000 in
theorem lifted (os : Os) (started : os.Started) (H : Type) (enc : TypeId × Value → H) :
    ReturnsInHanded {} Try.checked os 5 .any (Rows.coverWholeSpec.pre6 enc Try.prog Try.f5 Rows.coverWholeRow.domain false) (Rows.coverWholeSpec.post enc Try.prog Try.f5 false true false false) := by
  refine returnsInHanded_of_change (C := Try.checked) own started (by kernel_rfl) Try.func5
    (ChangeSpec.witness6 (enc := enc) (C := Try.checked) false ⟨#[], #[.agg #[.int .i64 0, .int .i64 0, .int .i64 0, .int .i64 0], .int .i64 0, .int .i64 0], []⟩ 8 (by kernel_rfl) (by kernel_rfl) (by kernel_rfl) (by kernel_rfl)) ?_
  intro W base args ds gs before hval0 hW hcnd _
  have hval : ∀ (j : Nat) t v, Try.f5.params[j]? = some t → args[j]? = some v → Value.okWide Try.prog W .any base t v := hval0
  have hW' := hW
  obtain ⟨p, q, hA0, hV, rfl, hfz, hnd⟩ := hW
  have hA : DataW.TrodAll enc Try.prog W 0 (fun _ => true) true Try.f5.params.toList args.toList ds p := hA0
  rw [Try.params5] at hA hval
  obtain ⟨v0, vs0, d0, ds0, p0, q0, hargs, rfl, rfl, h0, r0⟩ := trodAll_cons hA
  obtain ⟨v1, vs1, d1, ds1, p1, q1, rfl, rfl, rfl, h1, r1⟩ := trodAll_cons r0
  obtain ⟨v2, vs2, d2, ds2, p2, q2, rfl, rfl, rfl, h2, r2⟩ := trodAll_cons r1
  obtain ⟨rfl, rfl, rfl⟩ := trodAll_nil r2
  obtain rfl : args = #[v0, v1, v2] := by cases args; simp_all
  obtain ⟨rfl, rfl⟩ := trodVars_none hV
  obtain ⟨a0_0, a0_1, a0_2, a0_3, rfl, rfl, rfl, w0_0, w0_1, w0_2, w0_3⟩ := open_ints4 Try.underlying41 Try.underlying3 (by kernel_rfl) (by kernel_rfl) (by kernel_rfl) rfl (hval 0 41 v0 rfl rfl) h0
  obtain ⟨a1, rfl, rfl, rfl, w1⟩ := open_int Try.underlying3 (hval 1 3 v1 rfl rfl) h1
  obtain ⟨a2, rfl, rfl, rfl, w2⟩ := open_int Try.underlying3 (hval 2 3 v2 rfl rfl) h2
  clear hA0 hval0
  simp only [List.append_nil] at hW'
  refine (coverWhole_walk a0_0 a0_1 a0_2 a0_3 a1 a2 w0_0 w0_1 w0_2 w0_3 w1 w2 W).mono fun e W' ⟨he, hg⟩ => ?_
  subst he
  exact ⟨_, rfl, post_below (pa := []) (pv := []) hW' (fun _ _ _ => (trodAll_cons_mk (shut_bool Try.underlying4 _) trodAll_mk0)) (fun sp _ => (trodAll_cons_mk (shut_ints4 Try.underlying41 Try.underlying3 (by kernel_rfl) (by kernel_rfl) (by kernel_rfl) rfl w0_0 w0_1 w0_2 w0_3) (trodAll_cons_mk (shut_int Try.underlying3 w1) (trodAll_cons_mk (shut_int Try.underlying3 w2) trodAll_mk0)))) (fun _ _ => rfl) rfl hg⟩

theorem over : Rows.coverWholeRow.holds Try.pinned (OpenSpec.ofChange Rows.coverWholeSpec) :=
  OpenClaim.holds_of_wide 5 Try.f5 rfl rfl rfl rfl rfl rfl rfl ⟨rfl, rfl, rfl, rfl, rfl⟩ rfl rfl rfl rfl rfl (by kernel_rfl) Try.func5 (by kernel_rfl)
    (of_decide_eq_true (by kernel_rfl)) (by unfold Func.isWrapper; first | (rw [if_pos (by decide +kernel)]; kernel_rfl) | (rw [if_neg (by decide +kernel)]; exact ⟨rfl, rfl⟩))
    (fun os started H enc _ => lifted os started H enc)

end Go.Proofs.Ytopepgifhnfbiaa.coverWhole
namespace Go.Proofs.Ytopepgifhnfbiaa
theorem coverWhole_holds : Rows.CoverWholeSaid := coverWhole.over
#print axioms coverWhole_holds
end Go.Proofs.Ytopepgifhnfbiaa
