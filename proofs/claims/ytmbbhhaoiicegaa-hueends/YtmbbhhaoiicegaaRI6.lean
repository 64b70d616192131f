/- Contract of mutoscopelaw6.rising: it returns keys of its own that rise (at most forty, of the ticks from -4 to 315; those that are no curve have no ease); of the memory nothing that was there turns. -/
import Derived.Test.YtmbbhhaoiicegaaCO
import Derived.Test.YtmbbhhaoiicegaaKE5
namespace Go.Proofs.Ytmbbhhaoiicegaa
open Go.RowKit
open M

/-- Keys of colours that rise, within the bounds of 'rising', all of them at most at the tick A. -/
structure Crise (rs : List Ck) (A : Int) : Prop where
  few : rs.length ≤ 40
  top : A ≤ 8 * rs.length - 5
  bot : -5 ≤ A
  ok : ∀ i, i < rs.length → (ck rs i).p.Ok
  tick : ∀ i, i < rs.length → -5 < (ck rs i).t ∧ (ck rs i).t ≤ A
  how : ∀ i, i < rs.length → 0 ≤ (ck rs i).h ∧ (ck rs i).h ≤ 2
  plain : ∀ i, i < rs.length → (ck rs i).h ≠ 2 → (ck rs i).a = 0 ∧ (ck rs i).b = 0 ∧ (ck rs i).c = 0 ∧ (ck rs i).d = 0
  up : ∀ i, i + 1 < rs.length → (ck rs i).t < (ck rs (i + 1)).t
theorem Crise.nil : Crise [] (-5) := ⟨by simp, by simp, by decide, by simp, by simp, by simp, by simp, by simp⟩
theorem Crise.snoc {rs : List Ck} {A : Int} (h : Crise rs A) {k : Ck} (hl : rs.length < 40) (hk : k.p.Ok) (h1 : A + 1 ≤ k.t) (h2 : k.t ≤ A + 8) (a1 : 0 ≤ k.h) (a2 : k.h ≤ 2) (a3 : k.h ≠ 2 → k.a = 0 ∧ k.b = 0 ∧ k.c = 0 ∧ k.d = 0) : Crise (rs ++ [k]) k.t := by
  have hb := h.bot
  have ht := h.top
  refine ⟨by simp; omega, by simp; omega, by omega, ?_, ?_, ?_, ?_, ?_⟩
  · intro i hi
    simp at hi
    by_cases e : i < rs.length
    · rw [ck_left e]; exact h.ok i e
    · obtain rfl : i = rs.length := by omega
      rw [ck_last]; exact hk
  · intro i hi
    simp at hi
    by_cases e : i < rs.length
    · rw [ck_left e]; have := h.tick i e; omega
    · obtain rfl : i = rs.length := by omega
      rw [ck_last]; omega
  · intro i hi
    simp at hi
    by_cases e : i < rs.length
    · rw [ck_left e]; exact h.how i e
    · obtain rfl : i = rs.length := by omega
      rw [ck_last]; omega
  · intro i hi
    simp at hi
    by_cases e : i < rs.length
    · rw [ck_left e]; exact h.plain i e
    · obtain rfl : i = rs.length := by omega
      rw [ck_last]; exact a3
  · intro i hi
    simp at hi
    by_cases e : i + 1 < rs.length
    · rw [ck_left e, ck_left (by omega)]; exact h.up i e
    · have e2 : i + 1 = rs.length := by omega
      rw [ck_left (by omega), e2, ck_last]
      have := (h.tick i (by omega)).2
      omega
def Crisen (w : World) (n : Nat) (e : Ending) (w' : World) : Prop := ∃ (v : Value) (rs : List Ck) (A : Int), e = .returned v ∧ rs.length = n ∧ Crise rs A ∧ Cown w' w.heap.size v rs ∧ Below w.heap.size w w'
theorem crise_step {B : Nat} {w wr w2 : World} {v v' : Value} {rs : List Ck} {k : Ck} {A : Int} {o1 o2 : Obj} {n : Nat} (hl : rs.length = n) (hn : n < 40) (hrise : Crise rs A) (hsz : B ≤ wr.heap.size) (hown : Cown wr B v rs) (hb : Below B w wr)
    (hk : k.p.Ok) (h1 : A + 1 ≤ k.t) (h2 : k.t ≤ A + 8) (a1 : 0 ≤ k.h) (a2 : k.h ≤ 2) (a3 : k.h ≠ 2 → k.a = 0 ∧ k.b = 0 ∧ k.c = 0 ∧ k.d = 0)
    (hown' : w2.ownsRow B 31 10 v' (rs.length + 1) (cls rs ++ cl k)) (hg : ((wr.alloc o1).alloc o2).grownBy w2 v.ownBlock) :
    (rs ++ [k]).length = n + 1 ∧ Crise (rs ++ [k]) k.t ∧ Cown w2 B v' (rs ++ [k]) ∧ Below B w w2 := by
  refine ⟨by simp [hl], hrise.snoc (by omega) hk h1 h2 a1 a2 a3, Cown.snoc hown', ?_⟩
  exact ((hb.alloc hsz o1).alloc (by simp; omega) o2).grown hg (by simp; omega) (fun j hj => (World.ownsRow.lt hown j hj).1)

set_option maxHeartbeats 2000000 in
theorem l6_rising1 (g o len cap : Nat) (ks : List Ck) (w : World) (hr : Crow w g o ks) (hn : ks.length = min len 40) (h0 : 0 < len) (h63 : len ≤ 9223372036854775807) :
    Calls Try.prog 13 #[.slice (some ⟨g, o, none⟩) len cap] w (Crisen w ks.length) := by
  obtain ⟨i0, hi, hz0, hz1, hz2⟩ := info_parts Try.infoCk
  have hg := hr.lt (by omega)
  have HR := Lib.hid hr
  clear hr
  obtain ⟨B, hB⟩ : ∃ B, w.heap.size = B := ⟨_, rfl⟩
  rw [hB] at hg
  have HW := Lib.hid hB
  go_enter Try.func13, Try.ntmps13
  go_wp2
  clear hB
  go_loopw [3, 4, 5, 6] (fun v at' i _ wr => ∃ (n : Nat) (rs : List Ck) (A : Int), n ≤ ks.length ∧ i = .int .i64 n ∧ at' = .int .i64 A ∧ rs.length = n ∧ Crise rs A ∧ Cown wr B v rs ∧ Below B w wr) (fun _ _ i _ _ => ks.length - (intOf i).toNat)
  case atStart => exact ⟨0, [], -5, by omega, rfl, rfl, rfl, Crise.nil, Cown.nil _ _, Below.refl _ _⟩
  case round =>
    obtain ⟨n, rs, A, hnl, rfl, rfl, hl, hrise, hown, hb⟩ := hrel
    have hsz : B ≤ wr.heap.size := by have := hb.size; have := HW.out; omega
    have A0 := hrise.bot
    have A1 : A ≤ 400 := by have := hrise.top; have := hrise.few; omega
    have HL := Lib.hid hl
    have HRI := Lib.hid hrise
    have HO := Lib.hid hown
    have HB := Lib.hid hb
    clear hl hrise hown hb
    by_cases hlt : n < ks.length
    · have hr := HR.out.below HB.out hg
      have c0 := hr.c0 n hlt
      have c1 := hr.c1 n hlt
      have c2 := hr.c2 n hlt
      have c3 := hr.c3 n hlt
      have c4 := hr.c4 n hlt
      have c5 := hr.c5 n hlt
      have c6 := hr.c6 n hlt
      have c7 := hr.c7 n hlt
      have c8 := hr.c8 n hlt
      have c9 := hr.c9 n hlt
      have hk := hr.ok n hlt
      clear hr
      have o1 : (n : Int) < len := by omega
      have o2 : (n : Int) < 40 := by omega
      generalize ck ks n = k at *
      obtain ⟨kt, ⟨kr, kg, kb, kq⟩, kh, ka, ke, kf, kd⟩ := k
      simp only at c0 c1 c2 c3 c4 c5 c6 c7 c8 c9 hk
      have k0 := hk.r0
      have k1 := hk.r1
      simp only at k0 k1
      have HK := Lib.hid hk
      clear hk
      obtain ⟨X, hX, X0, X1⟩ : ∃ X, bits .and .i64 kt 7 = X ∧ 0 ≤ X ∧ X ≤ 7 := ⟨_, rfl, by rw [and_seven]; omega, by rw [and_seven]; omega⟩
      obtain ⟨H, hH, H0, H1⟩ : ∃ H, kr % 3 = H ∧ 0 ≤ H ∧ H ≤ 2 := ⟨_, rfl, by omega, by omega⟩
      by_cases h2 : H = 2
      · obtain ⟨a, ha⟩ : ∃ a, bits .and .i64 ka 65535 = a := ⟨_, rfl⟩
        obtain ⟨b, hb⟩ : ∃ b, ke.tmod 65536 = b := ⟨_, rfl⟩
        obtain ⟨c, hc⟩ : ∃ c, bits .and .i64 kf 65535 = c := ⟨_, rfl⟩
        go_wp2_with (at_builtin; refine wpList_append_near _ rfl _ _ 32 rfl B 31 i0 (.agg #[.int .i64 0, .int .u8 0, .int .u8 0, .int .u8 0, .int .u8 0, .int .i64 0, .int .i64 0, .int .i64 0, .int .i64 0, .int .i64 0]) 10 56 Try.underlying32 hi hz0 hz1 hz2 rfl (by decide) _ _ _ rfl ((HO.out.alloc _).alloc _) ⟨wr.heap.size + 1, 0, none⟩ 1 1 (cl ⟨A + 1 + X, ⟨kr, kg, kb, kq⟩, 2, a, b, c, 131072⟩) rfl rfl (ten_cells (by simp)) (one_cl _) ?c3 ?c4 ?c5 ?_)
        case c3 => have := HL.out; unfold maxLen; omega
        case c4 => have := HL.out; omega
        case c5 => simp; omega
        intro v' w2 hown' hg' _
        have R := Lib.hid (crise_step HL.out (by omega) HRI.out hsz HO.out HB.out HK.out (by simp only; omega) (by simp only; omega) (by simp only; omega) (by simp only; omega) (fun h => absurd rfl h) hown' hg')
        clear hown' hg' HO HRI HB HL HK c0 c1 c2 c3 c4 c5 c6 c7 c8 c9 ha hb hc hX hH
        go_wp2
        go_roundw
        case rel =>
          obtain ⟨r1, r2, r3, r4⟩ := R.out
          exact ⟨n + 1, _, _, by omega, by go_num, rfl, r1, r2, r3, r4⟩
        case measure => simp [intOf]; omega
      · go_wp2_with (at_builtin; refine wpList_append_near _ rfl _ _ 32 rfl B 31 i0 (.agg #[.int .i64 0, .int .u8 0, .int .u8 0, .int .u8 0, .int .u8 0, .int .i64 0, .int .i64 0, .int .i64 0, .int .i64 0, .int .i64 0]) 10 56 Try.underlying32 hi hz0 hz1 hz2 rfl (by decide) _ _ _ rfl ((HO.out.alloc _).alloc _) ⟨wr.heap.size + 1, 0, none⟩ 1 1 (cl ⟨A + 1 + X, ⟨kr, kg, kb, kq⟩, H, 0, 0, 0, 0⟩) rfl rfl (ten_cells (by simp)) (one_cl _) ?d3 ?d4 ?d5 ?_)
        case d3 => have := HL.out; unfold maxLen; omega
        case d4 => have := HL.out; omega
        case d5 => simp; omega
        intro v' w2 hown' hg' _
        have R := Lib.hid (crise_step HL.out (by omega) HRI.out hsz HO.out HB.out HK.out (by simp only; omega) (by simp only; omega) (by simp only; omega) (by simp only; omega) (fun _ => ⟨rfl, rfl, rfl, rfl⟩) hown' hg')
        clear hown' hg' HO HRI HB HL HK c0 c1 c2 c3 c4 c5 c6 c7 c8 c9 hX hH
        go_wp2
        go_roundw
        case rel =>
          obtain ⟨r1, r2, r3, r4⟩ := R.out
          exact ⟨n + 1, _, _, by omega, by go_num, rfl, r1, r2, r3, r4⟩
        case measure => simp [intOf]; omega
    · have en : n = ks.length := by omega
      have R : Crisen w ks.length (.returned u3) wr := ⟨_, rs, A, rfl, by rw [HL.out, en], HRI.out, by rw [HW.out]; exact HO.out, by rw [HW.out]; exact HB.out⟩
      have RH := Lib.hid R
      clear R HO HRI HB HL
      by_cases hlen : len ≤ 40
      · have o1 : (len : Int) ≤ n := by omega
        go_wp2
        go_ret
        exact RH.out
      · have o1 : (n : Int) < len := by omega
        have o2 : (40 : Int) ≤ n := by omega
        go_wp2
        go_ret
        exact RH.out
theorem l6_rising0 (ao : Option Addr) (cap : Nat) (w : World) :
    Calls Try.prog 13 #[.slice ao 0 cap] w (Crisen w 0) := by
  have R : Crisen w 0 (.returned (.slice none 0 0)) w := ⟨_, [], -5, rfl, rfl, Crise.nil, Cown.nil _ _, Below.refl _ _⟩
  have RH := Lib.hid R
  clear R
  go_enter Try.func13, Try.ntmps13
  go_wp2
  go_loop [3, 4, 5, 6] (fun v _ i _ => v = .slice none 0 0 ∧ i = .int .i64 0) (fun _ _ _ _ => 0)
  case atStart => exact ⟨rfl, rfl⟩
  case round =>
    obtain ⟨rfl, rfl⟩ := hrel
    go_wp2
    go_ret
    exact RH.out
/-- A slice of colour keys that came in: none, or as many as its length says, of which the first forty are these. -/
def Carg (w : World) (v : Value) (ks : List Ck) : Prop := (ks = [] ∧ ∃ ao cap, v = .slice ao 0 cap) ∨ ∃ g o len cap, v = .slice (some ⟨g, o, none⟩) len cap ∧ 0 < len ∧ len ≤ cap ∧ cap ≤ 9223372036854775807 ∧ ks.length = min len 40 ∧ Crow w g o ks
theorem Carg.below {w w' : World} {v : Value} {ks : List Ck} (h : Carg w v ks) (hb : Below w.heap.size w w') : Carg w' v ks := by
  rcases h with h | ⟨g, o, len, cap, hv, h0, h1, h2, hn, hr⟩
  · exact Or.inl h
  · exact Or.inr ⟨g, o, len, cap, hv, h0, h1, h2, hn, hr.below hb (hr.lt (by omega))⟩
theorem l6_rising {v : Value} {ks : List Ck} {w : World} (h : Carg w v ks) :
    Calls Try.prog 13 #[v] w (Crisen w ks.length) := by
  rcases h with ⟨rfl, ao, cap, rfl⟩ | ⟨g, o, len, cap, rfl, h0, h1, h2, hn, hr⟩
  · exact l6_rising0 ao cap w
  · exact l6_rising1 g o len cap ks w hr hn h0 (by omega)

end Go.Proofs.Ytmbbhhaoiicegaa
