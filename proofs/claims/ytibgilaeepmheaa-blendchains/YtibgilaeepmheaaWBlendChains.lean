/- BlendChains of the statements: for all colours the call returns true; of the memory nothing that was there turns. -/
import Derived.Test.YtibgilaeepmheaaK17
import Derived.Test.YtibgilaeepmheaaBlT
import Derived.Test.YtibgilaeepmheaaMake1
namespace Go.Proofs.Ytibgilaeepmheaa
open Go Go.RowKit
open M

/-- A colour that is opaque, or nothing. -/
def pkB (x : Bool) (c : Cr) : Cr := if x then ⟨c.r, c.g, c.b, 255⟩ else ⟨0, 0, 0, 0⟩
/-- The highest of two. -/
def onB (x : Bool) (c l : Cr) : Cr := if x then c else l
theorem pkB_okF {c : Cr} (h : c.Ok) : (⟨c.r, c.g, c.b, 255⟩ : Cr).Ok := ⟨h.r0, h.r1, h.g0, h.g1, h.b0, h.b1, (show (0 : Int) ≤ 255 by decide), (show (255 : Int) ≤ 255 by decide)⟩
theorem pkB_ok {x : Bool} {c : Cr} (h : c.Ok) : (pkB x c).Ok := by
  cases x
  · exact kn17z_ok
  · exact pkB_okF h
theorem over_pk {x : Bool} {c l : Cr} (h : c.Ok) (hl : l.Ok) : overB l (pkB x c) = onB x (pkB x c) l := by
  cases x
  · exact overB_high hl
  · exact overB_full _ (pkB_okF h)
theorem onB_ok {x : Bool} {c l : Cr} (h : c.Ok) (hl : l.Ok) : (onB x c l).Ok := by
  cases x
  · exact hl
  · exact h
/-- Three, one over the other, put together the other way. -/
theorem over_assoc {y z : Bool} {b c l : Cr} (hb : b.Ok) (hc : c.Ok) (hl : l.Ok) : overB l (overB (pkB y b) (pkB z c)) = onB z (pkB z c) (onB y (pkB y b) l) := by
  rw [over_pk hc (pkB_ok hb)]
  cases z
  · exact over_pk hb hl
  · exact overB_full _ (pkB_okF hc)

abbrev fourC' (r g b q : Int) : Array Value := #[.int .u8 r, .int .u8 g, .int .u8 b, .int .u8 q]
abbrev twelveC (a b c d e f g h i j k l : Int) : Array Value := #[.int .u8 a, .int .u8 b, .int .u8 c, .int .u8 d, .int .u8 e, .int .u8 f, .int .u8 g, .int .u8 h, .int .u8 i, .int .u8 j, .int .u8 k, .int .u8 l]
/-- What stands in the three pixels and in the one that is wanted, behind so many rounds. -/
def rowAt (p q r : Cr) : Nat → Array Value
  | 0 => twelveC 0 0 0 0 0 0 0 0 0 0 0 0
  | 1 => twelveC p.r p.g p.b p.q 0 0 0 0 0 0 0 0
  | 2 => twelveC p.r p.g p.b p.q q.r q.g q.b q.q 0 0 0 0
  | _ => twelveC p.r p.g p.b p.q q.r q.g q.b q.q r.r r.g r.b r.q
def wantAt (p v u : Cr) : Nat → Array Value
  | 0 => fourC' 0 0 0 0
  | 1 => fourC' p.r p.g p.b p.q
  | 2 => fourC' v.r v.g v.b v.q
  | _ => fourC' u.r u.g u.b u.q
structure Chn (w : World) (L G S : Nat) (row : Array Value) (p q r v u : Cr) (n : Nat) (w' : World) : Prop where
  l : Has w' L (rowAt p q r n) 35
  g : Has w' G (wantAt p v u n) 25
  s : Has w' S row 29
  b : Below w.heap.size w w'

set_option linter.unusedSimpArgs false
attribute [local go_sem] eq_pixel
set_option maxRecDepth 100000 in
set_option maxHeartbeats 8000000 in
theorem blendChains_walk {w : World} (va : Value) (a : Cr) (vb : Value) (b : Cr) (vc : Value) (c : Cr) (x y z : Bool) (ha : va = .agg (cCells a) ∧ a.Ok) (hb : vb = .agg (cCells b) ∧ b.Ok) (hc : vc = .agg (cCells c) ∧ c.Ok) :
    Calls Try.prog 6 #[va, vb, vc, .bool x, .bool y, .bool z] w fun e w' => e = .returned (.bool true) ∧ Below w.heap.size w w' := by
  obtain ⟨rfl, oka⟩ := ha
  obtain ⟨rfl, okb⟩ := hb
  obtain ⟨rfl, okc⟩ := hc
  have KN := Lib.hid (fun w => known17 w)
  have CA := Lib.hid (fun w => ofB_full oka ▸ bl_of ⟨a.r, a.g, a.b, 255⟩ 255 16 (pkB_okF oka) w)
  have CB := Lib.hid (fun w => ofB_full okb ▸ bl_of ⟨b.r, b.g, b.b, 255⟩ 255 16 (pkB_okF okb) w)
  have CC := Lib.hid (fun w => ofB_full okc ▸ bl_of ⟨c.r, c.g, c.b, 255⟩ 255 16 (pkB_okF okc) w)
  have okp : (pkB x a).Ok := pkB_ok oka
  have okq : (pkB y b).Ok := pkB_ok okb
  have okr : (pkB z c).Ok := pkB_ok okc
  have O1 := Lib.hid (fun w => bl_over (pkB x a) (pkB y b) okp okq w)
  have O3 := Lib.hid (fun w => bl_over (pkB y b) (pkB z c) okq okr w)
  have okm := overB_ok (pkB x a) okq
  have okn := overB_ok (pkB y b) okr
  have O2 := Lib.hid (fun w => bl_over (overB (pkB x a) (pkB y b)) (pkB z c) okm okr w)
  have O4 := Lib.hid (fun w => bl_over (pkB x a) (overB (pkB y b) (pkB z c)) okp okn w)
  have e1 : overB (overB (pkB x a) (pkB y b)) (pkB z c) = onB z (pkB z c) (onB y (pkB y b) (pkB x a)) := by rw [over_pk okc okm, over_pk okb okp]
  have e2 : overB (pkB x a) (overB (pkB y b) (pkB z c)) = onB z (pkB z c) (onB y (pkB y b) (pkB x a)) := over_assoc okb okc okp
  rw [e1] at O2
  rw [e2] at O4
  clear e1 e2 okm okn okp okq okr oka okb okc
  obtain ⟨m, hm⟩ : ∃ t, overB (pkB x a) (pkB y b) = t := ⟨_, rfl⟩
  rw [hm] at O1 O2
  obtain ⟨n, hn⟩ : ∃ t, overB (pkB y b) (pkB z c) = t := ⟨_, rfl⟩
  rw [hn] at O3 O4
  clear hm hn
  obtain ⟨u, hu⟩ : ∃ t, onB z (pkB z c) (onB y (pkB y b) (pkB x a)) = t := ⟨_, rfl⟩
  rw [hu] at O2 O4
  obtain ⟨v, hv⟩ : ∃ t, onB y (pkB y b) (pkB x a) = t := ⟨_, rfl⟩
  rw [hv] at hu
  obtain ⟨p, hp⟩ : ∃ t, pkB x a = t := ⟨_, rfl⟩
  obtain ⟨q, hq⟩ : ∃ t, pkB y b = t := ⟨_, rfl⟩
  obtain ⟨r, hr⟩ : ∃ t, pkB z c = t := ⟨_, rfl⟩
  rw [hp] at O1 O4 hv
  rw [hq] at O1 O3 hv
  rw [hr] at O2 O3 hu
  have FX : Hid ((x = true ∧ p = ⟨a.r, a.g, a.b, 255⟩) ∨ (x = false ∧ p = ⟨0, 0, 0, 0⟩)) := Lib.hid (by rw [← hp]; cases x <;> simp [pkB])
  have FY : Hid ((y = true ∧ q = ⟨b.r, b.g, b.b, 255⟩ ∧ v = q) ∨ (y = false ∧ q = ⟨0, 0, 0, 0⟩ ∧ v = p)) := Lib.hid (by rw [← hv, ← hq]; cases y <;> simp [pkB, onB])
  have FZ : Hid ((z = true ∧ r = ⟨c.r, c.g, c.b, 255⟩ ∧ u = r) ∨ (z = false ∧ r = ⟨0, 0, 0, 0⟩ ∧ u = v)) := Lib.hid (by rw [← hu, ← hr]; cases z <;> simp [pkB, onB])
  clear hp hq hr hu hv
  obtain ⟨a0, a1, a2, a3⟩ := a
  obtain ⟨b0, b1, b2, b3⟩ := b
  obtain ⟨c0, c1, c2, c3⟩ := c
  simp only at CA CB CC FX FY FZ
  obtain ⟨m0, m1, m2, m3⟩ := m
  obtain ⟨n0, n1, n2, n3⟩ := n
  obtain ⟨u0, u1, u2, u3⟩ := u
  obtain ⟨v0, v1, v2, v3⟩ := v
  obtain ⟨p0, p1, p2, p3⟩ := p
  obtain ⟨q0, q1, q2, q3⟩ := q
  obtain ⟨r0, r1, r2, r3⟩ := r
  simp only [Cr.mk.injEq] at FX FY FZ
  obtain ⟨A, hA⟩ : ∃ A, w.heap.size = A := ⟨_, rfl⟩
  obtain ⟨W, hW⟩ : ∃ W, (((((w.alloc (.cells (fourC' a0 a1 a2 a3) 29)).alloc (.cells (fourC' b0 b1 b2 b3) 29)).alloc (.cells (fourC' c0 c1 c2 c3) 29)).alloc (.cells (twelveC 0 0 0 0 0 0 0 0 0 0 0 0) 35)).alloc (.cells (fourC' 0 0 0 0) 25)).alloc (.cells (twelveC a0 a1 a2 a3 b0 b1 b2 b3 c0 c1 c2 c3) 29) = W := ⟨_, rfl⟩
  have H0 : Chn w (A + 1 + 1 + 1) (A + 1 + 1 + 1 + 1) (A + 1 + 1 + 1 + 1 + 1) (twelveC a0 a1 a2 a3 b0 b1 b2 b3 c0 c1 c2 c3) ⟨p0, p1, p2, p3⟩ ⟨q0, q1, q2, q3⟩ ⟨r0, r1, r2, r3⟩ ⟨v0, v1, v2, v3⟩ ⟨u0, u1, u2, u3⟩ 0 W := by
    rw [← hW]
    refine ⟨((has_new (by simp [hA])).alloc _).alloc _, (has_new (by simp [hA])).alloc _, has_new (by simp [hA]), ?_⟩
    exact ((((((Below.refl _ _).alloc (Nat.le_refl _) _).alloc (by simp) _).alloc (by simp; omega) _).alloc (by simp; omega) _).alloc (by simp; omega) _).alloc (by simp; omega) _
  have HA : Hid (w.heap.size ≤ A) := Lib.hid (by omega)
  have HW := Lib.hid hW
  clear hW
  go_enter Try.func6, Try.ntmps6
  go_upto_region 4 with fail
  rw [HW.out]
  clear hA HW
  go_loopw [23] (fun i wr => ∃ n : Nat, n ≤ 3 ∧ i = .int .i64 n ∧ Chn w (A + 1 + 1 + 1) (A + 1 + 1 + 1 + 1) (A + 1 + 1 + 1 + 1 + 1) (twelveC a0 a1 a2 a3 b0 b1 b2 b3 c0 c1 c2 c3) ⟨p0, p1, p2, p3⟩ ⟨q0, q1, q2, q3⟩ ⟨r0, r1, r2, r3⟩ ⟨v0, v1, v2, v3⟩ ⟨u0, u1, u2, u3⟩ n wr) (fun i _ => 3 - (intOf i).toNat)
  case atStart => exact ⟨0, by omega, rfl, H0⟩
  case round =>
    obtain ⟨k, hk, rfl, hrl⟩ := hrel
    clear H0
    rcases (show k = 0 ∨ k = 1 ∨ k = 2 ∨ k = 3 by omega) with rfl | rfl | rfl | rfl
    · obtain ⟨hl, hg, hs, hb⟩ := hrl
      obtain ⟨K, hK⟩ : ∃ K, wr.heap.size = K := ⟨_, rfl⟩
      have s0 := hs.cell 0 (.int .u8 a0) rfl
      have s1 := hs.cell 1 (.int .u8 a1) rfl
      have s2 := hs.cell 2 (.int .u8 a2) rfl
      have s3 := hs.cell 3 (.int .u8 a3) rfl
      rcases FX.out with ⟨hx, e0, e1, e2, e3⟩ | ⟨hx, e0, e1, e2, e3⟩
      · subst hx
        obtain ⟨V, hV⟩ : ∃ V, (wr.alloc (.cells (fourC' a0 a1 a2 255) 29)).alloc (.cells #[.bool true, .bool y, .bool z] 4) = V := ⟨_, rfl⟩
        have hkV : Has V K (fourC' a0 a1 a2 255) 29 := by rw [← hV]; exact (has_new hK).alloc _
        have hlV : Has V (A + 1 + 1 + 1) (twelveC 0 0 0 0 0 0 0 0 0 0 0 0) 35 := by rw [← hV]; exact (hl.alloc _).alloc _
        have hgV : Has V (A + 1 + 1 + 1 + 1) (fourC' 0 0 0 0) 25 := by rw [← hV]; exact (hg.alloc _).alloc _
        have hsV : Has V (A + 1 + 1 + 1 + 1 + 1) (twelveC a0 a1 a2 a3 b0 b1 b2 b3 c0 c1 c2 c3) 29 := by rw [← hV]; exact (hs.alloc _).alloc _
        have hbV : Below w.heap.size w V := by rw [← hV]; exact (hb.alloc hb.size _).alloc (by have := hb.size; simp; omega) _
        have RV := Lib.hid hV
        clear hV hl hg hs hb
        have HK := Lib.hid hkV
        have HL := Lib.hid hlV
        have HG := Lib.hid hgV
        have HS := Lib.hid hsV
        have HB := Lib.hid hbV
        clear hkV hlV hgV hsV hbV
        go_upto_region 8 with fail
        rw [RV.out]
        clear RV s0 s1 s2 s3
        have k0 := HK.out.cell 0 (.int .u8 a0) rfl
        have k1 := HK.out.cell 1 (.int .u8 a1) rfl
        have k2 := HK.out.cell 2 (.int .u8 a2) rfl
        have k3 := HK.out.cell 3 (.int .u8 255) rfl
        go_wp2_with fail
        refine (CA.out _).mono ?_
        rintro e w3 ⟨rfl, hb3⟩
        clear k0 k1 k2 k3
        have hl3 := HL.out.below hb3 HL.out.lt
        have hg3 := HG.out.below hb3 HG.out.lt
        have hs3 := HS.out.below hb3 HS.out.lt
        have fz := has_fro hl3
        have t0 := hl3.cell 0 (.int .u8 0) rfl
        have t1 := hl3.cell 1 (.int .u8 0) rfl
        have t2 := hl3.cell 2 (.int .u8 0) rfl
        have t3 := hl3.cell 3 (.int .u8 0) rfl
        obtain ⟨V2, hV⟩ : ∃ V, (((w3.setCell ⟨A + 1 + 1 + 1, 0, none⟩ (.int .u8 a0)).setCell ⟨A + 1 + 1 + 1, 1, none⟩ (.int .u8 a1)).setCell ⟨A + 1 + 1 + 1, 2, none⟩ (.int .u8 a2)).setCell ⟨A + 1 + 1 + 1, 3, none⟩ (.int .u8 255) = V := ⟨_, rfl⟩
        have hl4 : Has V2 (A + 1 + 1 + 1) (twelveC a0 a1 a2 255 0 0 0 0 0 0 0 0) 35 := by
          have := has_set (has_set (has_set (has_set hl3 0 (.int .u8 a0)) 1 (.int .u8 a1)) 2 (.int .u8 a2)) 3 (.int .u8 255)
          rw [hV] at this
          simpa using this
        have hg4 : Has V2 (A + 1 + 1 + 1 + 1) (fourC' 0 0 0 0) 25 := by
          rw [← hV]
          exact has_setQ (has_setQ (has_setQ (has_setQ hg3 (by omega) _ _) (by omega) _ _) (by omega) _ _) (by omega) _ _
        have hs4 : Has V2 (A + 1 + 1 + 1 + 1 + 1) (twelveC a0 a1 a2 a3 b0 b1 b2 b3 c0 c1 c2 c3) 29 := by
          rw [← hV]
          exact has_setQ (has_setQ (has_setQ (has_setQ hs3 (by omega) _ _) (by omega) _ _) (by omega) _ _) (by omega) _ _
        have hb4 : Below w.heap.size w V2 := by
          have ha : w.heap.size ≤ A + 1 + 1 + 1 := by have := HA.out; omega
          rw [← hV]
          exact ((((HB.out.trans (hb3.mono HB.out.size)).setCell ha _).setCell ha _).setCell ha _).setCell ha _
        have RV := Lib.hid hV
        have HL4 := Lib.hid hl4
        have HG4 := Lib.hid hg4
        have HS4 := Lib.hid hs4
        have HB4 := Lib.hid hb4
        clear hV hl3 hg3 hs3 hb3 hl4 hg4 hs4 hb4 HK HL HG HS HB
        go_upto_region 9 with fail
        rw [RV.out]
        clear RV fz t0 t1 t2 t3
        have fz := has_fro HG4.out
        have t0 := HL4.out.cell 0 (.int .u8 a0) rfl
        have g0 := HG4.out.cell 0 (.int .u8 0) rfl
        have t1 := HL4.out.cell 1 (.int .u8 a1) rfl
        have g1 := HG4.out.cell 1 (.int .u8 0) rfl
        have t2 := HL4.out.cell 2 (.int .u8 a2) rfl
        have g2 := HG4.out.cell 2 (.int .u8 0) rfl
        have t3 := HL4.out.cell 3 (.int .u8 255) rfl
        have g3 := HG4.out.cell 3 (.int .u8 0) rfl
        go_wp2
        go_roundw
        case rel =>
          refine ⟨1, by omega, rfl, ?_, ?_, ?_, ?_⟩
          · have := has_setQ (has_setQ (has_setQ (has_setQ HL4.out (k := A + 1 + 1 + 1 + 1) (by omega) 0 (.int .u8 a0)) (k := A + 1 + 1 + 1 + 1) (by omega) 1 (.int .u8 a1)) (k := A + 1 + 1 + 1 + 1) (by omega) 2 (.int .u8 a2)) (k := A + 1 + 1 + 1 + 1) (by omega) 3 (.int .u8 255)
            simp only [rowAt, e0, e1, e2, e3]
            exact this
          · have := has_set (has_set (has_set (has_set HG4.out 0 (.int .u8 a0)) 1 (.int .u8 a1)) 2 (.int .u8 a2)) 3 (.int .u8 255)
            simp only [wantAt, e0, e1, e2, e3]
            simpa using this
          · exact has_setQ (has_setQ (has_setQ (has_setQ HS4.out (by omega) _ _) (by omega) _ _) (by omega) _ _) (by omega) _ _
          · have ha : w.heap.size ≤ A + 1 + 1 + 1 + 1 := by have := HA.out; omega
            exact (((HB4.out.setCell ha _).setCell ha _).setCell ha _).setCell ha _
        case measure => simp [intOf]
      · subst hx
        have HL := Lib.hid hl
        have HG := Lib.hid hg
        have HS := Lib.hid hs
        have HB := Lib.hid hb
        clear hl hg hs hb
        go_wp2
        go_roundw
        case rel =>
          refine ⟨1, by omega, rfl, ?_, ?_, ?_, ?_⟩
          · have := (HL.out.alloc (.cells (fourC' a0 a1 a2 a3) 29)).alloc (.cells #[.bool false, .bool y, .bool z] 4)
            simp only [rowAt, e0, e1, e2, e3]
            exact this
          · have := (HG.out.alloc (.cells (fourC' a0 a1 a2 a3) 29)).alloc (.cells #[.bool false, .bool y, .bool z] 4)
            simp only [wantAt, e0, e1, e2, e3]
            exact this
          · exact (HS.out.alloc _).alloc _
          · exact (HB.out.alloc HB.out.size _).alloc (by have := HB.out.size; simp; omega) _
        case measure => simp [intOf]
    · obtain ⟨hl, hg, hs, hb⟩ := hrl
      obtain ⟨K, hK⟩ : ∃ K, wr.heap.size = K := ⟨_, rfl⟩
      have s0 := hs.cell 4 (.int .u8 b0) rfl
      have s1 := hs.cell 5 (.int .u8 b1) rfl
      have s2 := hs.cell 6 (.int .u8 b2) rfl
      have s3 := hs.cell 7 (.int .u8 b3) rfl
      rcases FY.out with ⟨hx, ⟨e0, e1, e2, e3⟩, d0, d1, d2, d3⟩ | ⟨hx, ⟨e0, e1, e2, e3⟩, d0, d1, d2, d3⟩
      · subst hx
        obtain ⟨V, hV⟩ : ∃ V, (wr.alloc (.cells (fourC' b0 b1 b2 255) 29)).alloc (.cells #[.bool x, .bool true, .bool z] 4) = V := ⟨_, rfl⟩
        have hkV : Has V K (fourC' b0 b1 b2 255) 29 := by rw [← hV]; exact (has_new hK).alloc _
        have hlV : Has V (A + 1 + 1 + 1) (twelveC p0 p1 p2 p3 0 0 0 0 0 0 0 0) 35 := by rw [← hV]; exact (hl.alloc _).alloc _
        have hgV : Has V (A + 1 + 1 + 1 + 1) (fourC' p0 p1 p2 p3) 25 := by rw [← hV]; exact (hg.alloc _).alloc _
        have hsV : Has V (A + 1 + 1 + 1 + 1 + 1) (twelveC a0 a1 a2 a3 b0 b1 b2 b3 c0 c1 c2 c3) 29 := by rw [← hV]; exact (hs.alloc _).alloc _
        have hbV : Below w.heap.size w V := by rw [← hV]; exact (hb.alloc hb.size _).alloc (by have := hb.size; simp; omega) _
        have RV := Lib.hid hV
        clear hV hl hg hs hb
        have HK := Lib.hid hkV
        have HL := Lib.hid hlV
        have HG := Lib.hid hgV
        have HS := Lib.hid hsV
        have HB := Lib.hid hbV
        clear hkV hlV hgV hsV hbV
        go_upto_region 8 with fail
        rw [RV.out]
        clear RV s0 s1 s2 s3
        have k0 := HK.out.cell 0 (.int .u8 b0) rfl
        have k1 := HK.out.cell 1 (.int .u8 b1) rfl
        have k2 := HK.out.cell 2 (.int .u8 b2) rfl
        have k3 := HK.out.cell 3 (.int .u8 255) rfl
        go_wp2_with fail
        refine (CB.out _).mono ?_
        rintro e w3 ⟨rfl, hb3⟩
        clear k0 k1 k2 k3
        have hl3 := HL.out.below hb3 HL.out.lt
        have hg3 := HG.out.below hb3 HG.out.lt
        have hs3 := HS.out.below hb3 HS.out.lt
        have fz := has_fro hl3
        have t0 := hl3.cell 4 (.int .u8 0) rfl
        have t1 := hl3.cell 5 (.int .u8 0) rfl
        have t2 := hl3.cell 6 (.int .u8 0) rfl
        have t3 := hl3.cell 7 (.int .u8 0) rfl
        obtain ⟨V2, hV⟩ : ∃ V, (((w3.setCell ⟨A + 1 + 1 + 1, 4, none⟩ (.int .u8 b0)).setCell ⟨A + 1 + 1 + 1, 5, none⟩ (.int .u8 b1)).setCell ⟨A + 1 + 1 + 1, 6, none⟩ (.int .u8 b2)).setCell ⟨A + 1 + 1 + 1, 7, none⟩ (.int .u8 255) = V := ⟨_, rfl⟩
        have hl4 : Has V2 (A + 1 + 1 + 1) (twelveC p0 p1 p2 p3 b0 b1 b2 255 0 0 0 0) 35 := by
          have := has_set (has_set (has_set (has_set hl3 4 (.int .u8 b0)) 5 (.int .u8 b1)) 6 (.int .u8 b2)) 7 (.int .u8 255)
          rw [hV] at this
          simpa using this
        have hg4 : Has V2 (A + 1 + 1 + 1 + 1) (fourC' p0 p1 p2 p3) 25 := by
          rw [← hV]
          exact has_setQ (has_setQ (has_setQ (has_setQ hg3 (by omega) _ _) (by omega) _ _) (by omega) _ _) (by omega) _ _
        have hs4 : Has V2 (A + 1 + 1 + 1 + 1 + 1) (twelveC a0 a1 a2 a3 b0 b1 b2 b3 c0 c1 c2 c3) 29 := by
          rw [← hV]
          exact has_setQ (has_setQ (has_setQ (has_setQ hs3 (by omega) _ _) (by omega) _ _) (by omega) _ _) (by omega) _ _
        have hb4 : Below w.heap.size w V2 := by
          have ha : w.heap.size ≤ A + 1 + 1 + 1 := by have := HA.out; omega
          rw [← hV]
          exact ((((HB.out.trans (hb3.mono HB.out.size)).setCell ha _).setCell ha _).setCell ha _).setCell ha _
        have RV := Lib.hid hV
        have HL4 := Lib.hid hl4
        have HG4 := Lib.hid hg4
        have HS4 := Lib.hid hs4
        have HB4 := Lib.hid hb4
        clear hV hl3 hg3 hs3 hb3 hl4 hg4 hs4 hb4 HK HL HG HS HB
        go_upto_region 9 with fail
        rw [RV.out]
        clear RV fz t0 t1 t2 t3
        have fz := has_fro HG4.out
        have t0 := HL4.out.cell 4 (.int .u8 b0) rfl
        have g0 := HG4.out.cell 0 (.int .u8 p0) rfl
        have t1 := HL4.out.cell 5 (.int .u8 b1) rfl
        have g1 := HG4.out.cell 1 (.int .u8 p1) rfl
        have t2 := HL4.out.cell 6 (.int .u8 b2) rfl
        have g2 := HG4.out.cell 2 (.int .u8 p2) rfl
        have t3 := HL4.out.cell 7 (.int .u8 255) rfl
        have g3 := HG4.out.cell 3 (.int .u8 p3) rfl
        go_wp2
        go_roundw
        case rel =>
          refine ⟨2, by omega, rfl, ?_, ?_, ?_, ?_⟩
          · have := has_setQ (has_setQ (has_setQ (has_setQ HL4.out (k := A + 1 + 1 + 1 + 1) (by omega) 0 (.int .u8 b0)) (k := A + 1 + 1 + 1 + 1) (by omega) 1 (.int .u8 b1)) (k := A + 1 + 1 + 1 + 1) (by omega) 2 (.int .u8 b2)) (k := A + 1 + 1 + 1 + 1) (by omega) 3 (.int .u8 255)
            simp only [rowAt, e0, e1, e2, e3]
            exact this
          · have := has_set (has_set (has_set (has_set HG4.out 0 (.int .u8 b0)) 1 (.int .u8 b1)) 2 (.int .u8 b2)) 3 (.int .u8 255)
            simp only [wantAt, e0, e1, e2, e3, d0, d1, d2, d3]
            simpa using this
          · exact has_setQ (has_setQ (has_setQ (has_setQ HS4.out (by omega) _ _) (by omega) _ _) (by omega) _ _) (by omega) _ _
          · have ha : w.heap.size ≤ A + 1 + 1 + 1 + 1 := by have := HA.out; omega
            exact (((HB4.out.setCell ha _).setCell ha _).setCell ha _).setCell ha _
        case measure => simp [intOf]
      · subst hx
        have HL := Lib.hid hl
        have HG := Lib.hid hg
        have HS := Lib.hid hs
        have HB := Lib.hid hb
        clear hl hg hs hb
        go_wp2
        go_roundw
        case rel =>
          refine ⟨2, by omega, rfl, ?_, ?_, ?_, ?_⟩
          · have := (HL.out.alloc (.cells (fourC' b0 b1 b2 b3) 29)).alloc (.cells #[.bool x, .bool false, .bool z] 4)
            simp only [rowAt, e0, e1, e2, e3]
            exact this
          · have := (HG.out.alloc (.cells (fourC' b0 b1 b2 b3) 29)).alloc (.cells #[.bool x, .bool false, .bool z] 4)
            simp only [wantAt, e0, e1, e2, e3, d0, d1, d2, d3]
            exact this
          · exact (HS.out.alloc _).alloc _
          · exact (HB.out.alloc HB.out.size _).alloc (by have := HB.out.size; simp; omega) _
        case measure => simp [intOf]
    · obtain ⟨hl, hg, hs, hb⟩ := hrl
      obtain ⟨K, hK⟩ : ∃ K, wr.heap.size = K := ⟨_, rfl⟩
      have s0 := hs.cell 8 (.int .u8 c0) rfl
      have s1 := hs.cell 9 (.int .u8 c1) rfl
      have s2 := hs.cell 10 (.int .u8 c2) rfl
      have s3 := hs.cell 11 (.int .u8 c3) rfl
      rcases FZ.out with ⟨hx, ⟨e0, e1, e2, e3⟩, d0, d1, d2, d3⟩ | ⟨hx, ⟨e0, e1, e2, e3⟩, d0, d1, d2, d3⟩
      · subst hx
        obtain ⟨V, hV⟩ : ∃ V, (wr.alloc (.cells (fourC' c0 c1 c2 255) 29)).alloc (.cells #[.bool x, .bool y, .bool true] 4) = V := ⟨_, rfl⟩
        have hkV : Has V K (fourC' c0 c1 c2 255) 29 := by rw [← hV]; exact (has_new hK).alloc _
        have hlV : Has V (A + 1 + 1 + 1) (twelveC p0 p1 p2 p3 q0 q1 q2 q3 0 0 0 0) 35 := by rw [← hV]; exact (hl.alloc _).alloc _
        have hgV : Has V (A + 1 + 1 + 1 + 1) (fourC' v0 v1 v2 v3) 25 := by rw [← hV]; exact (hg.alloc _).alloc _
        have hsV : Has V (A + 1 + 1 + 1 + 1 + 1) (twelveC a0 a1 a2 a3 b0 b1 b2 b3 c0 c1 c2 c3) 29 := by rw [← hV]; exact (hs.alloc _).alloc _
        have hbV : Below w.heap.size w V := by rw [← hV]; exact (hb.alloc hb.size _).alloc (by have := hb.size; simp; omega) _
        have RV := Lib.hid hV
        clear hV hl hg hs hb
        have HK := Lib.hid hkV
        have HL := Lib.hid hlV
        have HG := Lib.hid hgV
        have HS := Lib.hid hsV
        have HB := Lib.hid hbV
        clear hkV hlV hgV hsV hbV
        go_upto_region 8 with fail
        rw [RV.out]
        clear RV s0 s1 s2 s3
        have k0 := HK.out.cell 0 (.int .u8 c0) rfl
        have k1 := HK.out.cell 1 (.int .u8 c1) rfl
        have k2 := HK.out.cell 2 (.int .u8 c2) rfl
        have k3 := HK.out.cell 3 (.int .u8 255) rfl
        go_wp2_with fail
        refine (CC.out _).mono ?_
        rintro e w3 ⟨rfl, hb3⟩
        clear k0 k1 k2 k3
        have hl3 := HL.out.below hb3 HL.out.lt
        have hg3 := HG.out.below hb3 HG.out.lt
        have hs3 := HS.out.below hb3 HS.out.lt
        have fz := has_fro hl3
        have t0 := hl3.cell 8 (.int .u8 0) rfl
        have t1 := hl3.cell 9 (.int .u8 0) rfl
        have t2 := hl3.cell 10 (.int .u8 0) rfl
        have t3 := hl3.cell 11 (.int .u8 0) rfl
        obtain ⟨V2, hV⟩ : ∃ V, (((w3.setCell ⟨A + 1 + 1 + 1, 8, none⟩ (.int .u8 c0)).setCell ⟨A + 1 + 1 + 1, 9, none⟩ (.int .u8 c1)).setCell ⟨A + 1 + 1 + 1, 10, none⟩ (.int .u8 c2)).setCell ⟨A + 1 + 1 + 1, 11, none⟩ (.int .u8 255) = V := ⟨_, rfl⟩
        have hl4 : Has V2 (A + 1 + 1 + 1) (twelveC p0 p1 p2 p3 q0 q1 q2 q3 c0 c1 c2 255) 35 := by
          have := has_set (has_set (has_set (has_set hl3 8 (.int .u8 c0)) 9 (.int .u8 c1)) 10 (.int .u8 c2)) 11 (.int .u8 255)
          rw [hV] at this
          simpa using this
        have hg4 : Has V2 (A + 1 + 1 + 1 + 1) (fourC' v0 v1 v2 v3) 25 := by
          rw [← hV]
          exact has_setQ (has_setQ (has_setQ (has_setQ hg3 (by omega) _ _) (by omega) _ _) (by omega) _ _) (by omega) _ _
        have hs4 : Has V2 (A + 1 + 1 + 1 + 1 + 1) (twelveC a0 a1 a2 a3 b0 b1 b2 b3 c0 c1 c2 c3) 29 := by
          rw [← hV]
          exact has_setQ (has_setQ (has_setQ (has_setQ hs3 (by omega) _ _) (by omega) _ _) (by omega) _ _) (by omega) _ _
        have hb4 : Below w.heap.size w V2 := by
          have ha : w.heap.size ≤ A + 1 + 1 + 1 := by have := HA.out; omega
          rw [← hV]
          exact ((((HB.out.trans (hb3.mono HB.out.size)).setCell ha _).setCell ha _).setCell ha _).setCell ha _
        have RV := Lib.hid hV
        have HL4 := Lib.hid hl4
        have HG4 := Lib.hid hg4
        have HS4 := Lib.hid hs4
        have HB4 := Lib.hid hb4
        clear hV hl3 hg3 hs3 hb3 hl4 hg4 hs4 hb4 HK HL HG HS HB
        go_upto_region 9 with fail
        rw [RV.out]
        clear RV fz t0 t1 t2 t3
        have fz := has_fro HG4.out
        have t0 := HL4.out.cell 8 (.int .u8 c0) rfl
        have g0 := HG4.out.cell 0 (.int .u8 v0) rfl
        have t1 := HL4.out.cell 9 (.int .u8 c1) rfl
        have g1 := HG4.out.cell 1 (.int .u8 v1) rfl
        have t2 := HL4.out.cell 10 (.int .u8 c2) rfl
        have g2 := HG4.out.cell 2 (.int .u8 v2) rfl
        have t3 := HL4.out.cell 11 (.int .u8 255) rfl
        have g3 := HG4.out.cell 3 (.int .u8 v3) rfl
        go_wp2
        go_roundw
        case rel =>
          refine ⟨3, by omega, rfl, ?_, ?_, ?_, ?_⟩
          · have := has_setQ (has_setQ (has_setQ (has_setQ HL4.out (k := A + 1 + 1 + 1 + 1) (by omega) 0 (.int .u8 c0)) (k := A + 1 + 1 + 1 + 1) (by omega) 1 (.int .u8 c1)) (k := A + 1 + 1 + 1 + 1) (by omega) 2 (.int .u8 c2)) (k := A + 1 + 1 + 1 + 1) (by omega) 3 (.int .u8 255)
            simp only [rowAt, e0, e1, e2, e3]
            exact this
          · have := has_set (has_set (has_set (has_set HG4.out 0 (.int .u8 c0)) 1 (.int .u8 c1)) 2 (.int .u8 c2)) 3 (.int .u8 255)
            simp only [wantAt, e0, e1, e2, e3, d0, d1, d2, d3]
            simpa using this
          · exact has_setQ (has_setQ (has_setQ (has_setQ HS4.out (by omega) _ _) (by omega) _ _) (by omega) _ _) (by omega) _ _
          · have ha : w.heap.size ≤ A + 1 + 1 + 1 + 1 := by have := HA.out; omega
            exact (((HB4.out.setCell ha _).setCell ha _).setCell ha _).setCell ha _
        case measure => simp [intOf]
      · subst hx
        have HL := Lib.hid hl
        have HG := Lib.hid hg
        have HS := Lib.hid hs
        have HB := Lib.hid hb
        clear hl hg hs hb
        go_wp2
        go_roundw
        case rel =>
          refine ⟨3, by omega, rfl, ?_, ?_, ?_, ?_⟩
          · have := (HL.out.alloc (.cells (fourC' c0 c1 c2 c3) 29)).alloc (.cells #[.bool x, .bool y, .bool false] 4)
            simp only [rowAt, e0, e1, e2, e3]
            exact this
          · have := (HG.out.alloc (.cells (fourC' c0 c1 c2 c3) 29)).alloc (.cells #[.bool x, .bool y, .bool false] 4)
            simp only [wantAt, e0, e1, e2, e3, d0, d1, d2, d3]
            exact this
          · exact (HS.out.alloc _).alloc _
          · exact (HB.out.alloc HB.out.size _).alloc (by have := HB.out.size; simp; omega) _
        case measure => simp [intOf]
    · obtain ⟨hl, hg, hs, hb⟩ := hrl
      have HL : Hid (Has wr (A + 1 + 1 + 1) (twelveC p0 p1 p2 p3 q0 q1 q2 q3 r0 r1 r2 r3) 35) := Lib.hid hl
      have HG : Hid (Has wr (A + 1 + 1 + 1 + 1) (fourC' u0 u1 u2 u3) 25) := Lib.hid hg
      have HB := Lib.hid hb
      clear hl hg hs hb CA CB CC FX FY FZ
      have l0 := Later.read HL.out 0 (.int .u8 p0) rfl
      have l1 := Later.read HL.out 1 (.int .u8 p1) rfl
      have l2 := Later.read HL.out 2 (.int .u8 p2) rfl
      have l3 := Later.read HL.out 3 (.int .u8 p3) rfl
      have l4 := Later.read HL.out 4 (.int .u8 q0) rfl
      have l5 := Later.read HL.out 5 (.int .u8 q1) rfl
      have l6 := Later.read HL.out 6 (.int .u8 q2) rfl
      have l7 := Later.read HL.out 7 (.int .u8 q3) rfl
      have l8 := Later.read HL.out 8 (.int .u8 r0) rfl
      have l9 := Later.read HL.out 9 (.int .u8 r1) rfl
      have l10 := Later.read HL.out 10 (.int .u8 r2) rfl
      have l11 := Later.read HL.out 11 (.int .u8 r3) rfl
      have g0 := Later.read HG.out 0 (.int .u8 u0) rfl
      have g1 := Later.read HG.out 1 (.int .u8 u1) rfl
      have g2 := Later.read HG.out 2 (.int .u8 u2) rfl
      have g3 := Later.read HG.out 3 (.int .u8 u3) rfl
      go_wp2
      refine wp_region_class (C := fun w' => ∃ z : Later wr, w' = z.to) (by kernel_rfl) (by kernel_rfl) ⟨⟨_, below_drew (Below.refl _ _)⟩, rfl⟩ ?_
      repeat (go_big_quiet_step (first | (go_at_call_of 11 m0; exact Later.calls (O2.out _)) | (go_at_call_of 11 n0; exact Later.calls (O4.out _)) | (go_at_call_of 11 p0; exact Later.calls (O1.out _)) | (go_at_call 11; exact Later.calls (O3.out _)) | (go_at_call 19; exact Later.calls (KN.out _))))
      refine wpQuiet_nil ?_
      rintro _ ⟨z2, rfl⟩
      go_wp2
      go_ret
      exact ⟨by simp, HB.out.trans (z2.below.mono HB.out.size)⟩

end Go.Proofs.Ytibgilaeepmheaa
