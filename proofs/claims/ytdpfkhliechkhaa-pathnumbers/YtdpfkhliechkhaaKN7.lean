/- Contract of mutoscopelaw7.known: it returns true; of the memory nothing that was there turns. -/
import Derived.Test.YtdpfkhliechkhaaPM
import Derived.Deep.RegionHeld3
import Derived.Deep.RegionWith
namespace Go.Proofs.Ytdpfkhliechkhaa
open Go.RowKit
open M

/-- A later world: what was in W is as it was. -/
structure Ht (W w' : World) : Prop where
  below : Below W.heap.size W w'
theorem Ht.call {W w' w'' : World} (h : Ht W w') (hq : Below w'.heap.size w' w'') : Ht W w'' := ⟨h.below.trans (hq.mono h.below.size)⟩
theorem Ht.drew {W w' : World} (h : Ht W w') : Ht W w'.drew := h.call (below_drew (Below.refl _ _))
theorem Ht.alloc {W w' : World} (h : Ht W w') (o : Obj) : Ht W (w'.alloc o) := h.call ((Below.refl _ _).alloc (Nat.le_refl _) _)
theorem Ht.refl (W : World) : Ht W W := ⟨Below.refl _ _⟩
theorem Ht.two {W w' : World} {ga gb : Nat} {c d : Value} {v u : Value} {t t' : TypeId} (h : Ht W w') (H0 : Has W ga #[c, v] t) (H1 : Has W gb #[d, u] t') :
    Ht W w' ∧ w'.cell? ⟨ga, 0, none⟩ = some c ∧ w'.cell? ⟨ga, 1, none⟩ = some v ∧ w'.cell? ⟨gb, 0, none⟩ = some d ∧ w'.cell? ⟨gb, 1, none⟩ = some u := by
  have K0 := H0.below h.below H0.lt
  have K1 := H1.below h.below H1.lt
  exact ⟨h, K0.cell 0 _ rfl, K0.cell 1 _ rfl, K1.cell 0 _ rfl, K1.cell 1 _ rfl⟩
theorem Psl.ht {W w' : World} {v : Value} {ps : List Pt} (h : Psl W v ps) (hq : Ht W w') : Psl w' v ps := h.below hq.below (Nat.le_refl _)

def knP : List Pt := List.replicate 4 default
def knQ : List Pt := [⟨8, 0⟩, ⟨8, 0⟩, ⟨8, 0⟩, ⟨8, 0⟩]
def knZ : List Pt := List.replicate 5 default
theorem kn_r1 : okP false knP = true := by decide +kernel
theorem kn_r2 : okP false knZ = false := by decide +kernel
theorem kn_f : fits false knP false knQ = true := by decide +kernel
theorem kn_m0 : morph false knP false knQ 0 = knP := by decide +kernel
theorem kn_m1 : morph false knP false knQ 65536 = knQ := by decide +kernel
theorem kn_s (ps : List Pt) : ((false == false) && decide (ps = ps)) = true := by simp
theorem zer_sl {w : World} {g n : Nat} (hn : n ≤ 1000) (h : Has w g (zer n) 26) : Psl w (.slice (some ⟨g, 0, none⟩) n n) (List.replicate n default) := psl_lit n n (by simp) hn h (zer_pls n)

set_option maxHeartbeats 2000000 in
theorem known7 (w : World) :
    Calls Try.prog 11 #[] w fun r w' => r = .returned (.bool true) ∧ Below w.heap.size w w' := by
  have mk4 : ∀ w : World, (Instr.makeSlice 22 (.int .i64 4) (.int .i64 4)).run Try.prog w = .ok (.slice (some ⟨w.heap.size, 0, none⟩) 4 4) (w.alloc (.cells (zer 4) 26)) := make_pts (n := 4) (by decide)
  have mk5 : ∀ w : World, (Instr.makeSlice 22 (.int .i64 5) (.int .i64 5)).run Try.prog w = .ok (.slice (some ⟨w.heap.size, 0, none⟩) 5 5) (w.alloc (.cells (zer 5) 26)) := make_pts (n := 5) (by decide)
  obtain ⟨B, hB⟩ : ∃ B, w.heap.size = B := ⟨_, rfl⟩
  obtain ⟨W, hW⟩ : ∃ W, (((w.alloc (.cells (zer 4) 26)).alloc (.cells #[.bool false, .slice (some ⟨B, 0, none⟩) 4 4] 24)).alloc (.cells #[.int .i64 8, .int .i64 0, .int .i64 8, .int .i64 0, .int .i64 8, .int .i64 0, .int .i64 8, .int .i64 0] 26)).alloc (.cells #[.bool false, .slice (some ⟨B + 1 + 1, 0, none⟩) 4 4] 24) = W := ⟨_, rfl⟩
  have H0 : Has W (B + 1) #[.bool false, .slice (some ⟨B, 0, none⟩) 4 4] 24 := by rw [← hW]; exact ((has_new (by simp [hB])).alloc _).alloc _
  have H1 : Has W (B + 1 + 1 + 1) #[.bool false, .slice (some ⟨B + 1 + 1, 0, none⟩) 4 4] 24 := by rw [← hW]; exact has_new (by simp [hB])
  have SA : Psl W (.slice (some ⟨B, 0, none⟩) 4 4) knP := by rw [← hW]; exact zer_sl (by decide) ((((has_new hB).alloc _).alloc _).alloc _)
  have SB : Psl W (.slice (some ⟨B + 1 + 1, 0, none⟩) 4 4) knQ := by rw [← hW]; exact psl_lit 4 4 rfl (by decide) ((has_new (by simp [hB])).alloc _) rfl
  have HBW : Below B w W := by rw [← hW]; exact ((((Below.refl _ _).alloc (by omega) _).alloc (by simp; omega) _).alloc (by simp; omega) _).alloc (by simp; omega) _
  have X0 := Lib.hid H0
  have X1 := Lib.hid H1
  have XA := Lib.hid SA
  have XB := Lib.hid SB
  have HW := Lib.hid hW
  have HB := Lib.hid hB
  have HBB := Lib.hid HBW
  have HT0 : Hid (Ht W W) := Lib.hid (Ht.refl W)
  clear H0 H1 SA SB hW HBW
  go_enter Try.func11, Try.ntmps11
  go_wp2_with fail
  rw [HW.out]
  clear hB mk4
  go_region_held3 (fun w' => Ht W w' ∧ w'.cell? ⟨B + 1, 0, none⟩ = some (.bool false) ∧ w'.cell? ⟨B + 1, 1, none⟩ = some (.slice (some ⟨B, 0, none⟩) 4 4) ∧ w'.cell? ⟨B + 1 + 1 + 1, 0, none⟩ = some (.bool false) ∧ w'.cell? ⟨B + 1 + 1 + 1, 1, none⟩ = some (.slice (some ⟨B + 1 + 1, 0, none⟩) 4 4))
    ((go_split_ands; first | exact Ht.two HT0.out.drew X0.out X1.out | exact Ht.two (by assumption) X0.out X1.out | exact Ht.two (Ht.alloc (by assumption) _) X0.out X1.out))
    (first
      | (have mm := h7; clear mm; go_at_call 17; refine (p_same false false sl7 (XB.out.ht h7)).mono ?_; rw [kn_s]; rintro e w8 ⟨rfl, hq8⟩; have h8 := Ht.call h7 hq8)
      | (have mm := h6; clear mm; go_at_call 15; refine (p_morph false false 65536 (XA.out.ht h6) (XB.out.ht h6)).mono ?_; rw [kn_m1]; rintro e w7 ⟨v7, rfl, ho7, hq7⟩; have h7 := Ht.call h6 hq7; have sl7 := ho7.sl (by decide))
      | (have mm := h5; clear mm; go_at_call 17; refine (p_same false false sl5 (XA.out.ht h5)).mono ?_; rw [kn_s]; rintro e w6 ⟨rfl, hq6⟩; have h6 := Ht.call h5 hq6)
      | (have mm := h4; clear mm; go_at_call 15; refine (p_morph false false 0 (XA.out.ht h4) (XB.out.ht h4)).mono ?_; rw [kn_m0]; rintro e w5 ⟨v5, rfl, ho5, hq5⟩; have h5 := Ht.call h4 hq5; have sl5 := ho5.sl (by decide))
      | (go_at_call 20; refine (p_fits false false (XA.out.ht h3) (XB.out.ht h3)).mono ?_; rw [kn_f]; rintro e w4 ⟨rfl, hq4⟩; have h4 := Ht.call h3 hq4)
      | (go_at_call 22; refine (p_empty false (psl_nil _ none 0)).mono ?_; rintro e w3 ⟨rfl, hq3⟩; have h3 := Ht.call h2 hq3)
      | (have mm := h1; clear mm; go_at_call 16; refine (p_right false (zer_sl (by decide) has_new0)).mono ?_; rw [show okP false (List.replicate 5 default) = false from kn_r2]; rintro e w2 ⟨rfl, hq2⟩; have h2 := Ht.call (Ht.alloc h1 _) hq2)
      | (go_at_call 16; refine (p_right false (XA.out.ht HT0.out.drew)).mono ?_; rw [kn_r1]; rintro e w1 ⟨rfl, hq1⟩; have h1 := Ht.call HT0.out.drew hq1))
  all_goals
    go_wp2
    go_ret
    exact ⟨rfl, by rw [HB.out]; exact HBB.out.trans ((show Ht W _ by assumption).below.mono (by have := HBB.out.size; have := HB.out; omega))⟩

end Go.Proofs.Ytdpfkhliechkhaa
