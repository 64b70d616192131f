/- Contract of mutoscopelaw5.rising: it returns keys of its own that rise (at most forty, of the ticks from -4 to 315, of numbers below Near); of the memory nothing that was there turns. -/
import Derived.Test.YteikhmendjahnaaApp
import Derived.Test.YteikhmendjahnaaK4
namespace Go.Proofs.Yteikhmendjahnaa
open Go.RowKit
open M

theorem and_seven (c : Int) : bits .and .i64 c 7 = c % 8 := by
  show IntKind.i64.wrap ((BitVec.ofInt 64 c &&& BitVec.ofInt 64 (7 : Int)).toNat : Int) = _
  have e0 : (BitVec.ofInt 64 (7 : Int)).toNat = 7 := by decide
  have e1 : (BitVec.ofInt 64 c).toNat = (c % 18446744073709551616).toNat := by rw [BitVec.toNat_ofInt]; rfl
  have e2 : ∀ n : Nat, n &&& 7 = n % 8 := fun n => Nat.and_two_pow_sub_one_eq_mod n 3
  rw [BitVec.toNat_and, e0, e1, e2, IntKind.wrap_i64]
  omega
theorem and_three (c : Int) : bits .and .i64 c 3 = c % 4 := by
  show IntKind.i64.wrap ((BitVec.ofInt 64 c &&& BitVec.ofInt 64 (3 : Int)).toNat : Int) = _
  have e0 : (BitVec.ofInt 64 (3 : Int)).toNat = 3 := by decide
  have e1 : (BitVec.ofInt 64 c).toNat = (c % 18446744073709551616).toNat := by rw [BitVec.toNat_ofInt]; rfl
  have e2 : ∀ n : Nat, n &&& 3 = n % 4 := fun n => Nat.and_two_pow_sub_one_eq_mod n 2
  rw [BitVec.toNat_and, e0, e1, e2, IntKind.wrap_i64]
  omega
theorem and_byte (c : Int) : bits .and .i64 c 255 = c % 256 := by
  show IntKind.i64.wrap ((BitVec.ofInt 64 c &&& BitVec.ofInt 64 (255 : Int)).toNat : Int) = _
  have e0 : (BitVec.ofInt 64 (255 : Int)).toNat = 255 := by decide
  have e1 : (BitVec.ofInt 64 c).toNat = (c % 18446744073709551616).toNat := by rw [BitVec.toNat_ofInt]; rfl
  have e2 : ∀ n : Nat, n &&& 255 = n % 256 := fun n => Nat.and_two_pow_sub_one_eq_mod n 8
  rw [BitVec.toNat_and, e0, e1, e2, IntKind.wrap_i64]
  omega
theorem and_kilo (c : Int) : bits .and .i64 c 1023 = c % 1024 := by
  show IntKind.i64.wrap ((BitVec.ofInt 64 c &&& BitVec.ofInt 64 (1023 : Int)).toNat : Int) = _
  have e0 : (BitVec.ofInt 64 (1023 : Int)).toNat = 1023 := by decide
  have e1 : (BitVec.ofInt 64 c).toNat = (c % 18446744073709551616).toNat := by rw [BitVec.toNat_ofInt]; rfl
  have e2 : ∀ n : Nat, n &&& 1023 = n % 1024 := fun n => Nat.and_two_pow_sub_one_eq_mod n 10
  rw [BitVec.toNat_and, e0, e1, e2, IntKind.wrap_i64]
  omega
theorem tmod_bd (x n : Int) (h : 0 < n) : -n < x.tmod n ∧ x.tmod n < n := by
  rcases Int.le_total 0 x with h0 | h0
  · have a := Int.tmod_nonneg n h0
    have b := Int.tmod_lt_of_pos x h
    omega
  · have a := Int.tmod_nonneg n (show 0 ≤ -x by omega)
    have b := Int.tmod_lt_of_pos (-x) h
    rw [Int.neg_tmod] at a b
    omega

/-- Keys that rise, within the bounds of 'rising', all of them at most at the tick A. -/
structure Rise (rs : List Ky) (A : Int) : Prop where
  few : rs.length ≤ 40
  top : A ≤ 8 * rs.length - 5
  bot : -5 ≤ A
  tick : ∀ i, i < rs.length → -5 < (ky rs i).t ∧ (ky rs i).t ≤ A
  val : ∀ i, i < rs.length → -67108864 < (ky rs i).v ∧ (ky rs i).v < 67108864
  how : ∀ i, i < rs.length → 0 ≤ (ky rs i).h ∧ (ky rs i).h ≤ 2
  up : ∀ i, i + 1 < rs.length → (ky rs i).t < (ky rs (i + 1)).t
theorem ky_left {rs : List Ky} {k : Ky} {i : Nat} (h : i < rs.length) : ky (rs ++ [k]) i = ky rs i := by
  unfold ky; simp [List.getD, List.getElem?_append_left h]
theorem ky_last (rs : List Ky) (k : Ky) : ky (rs ++ [k]) rs.length = k := by unfold ky; simp [List.getD]
theorem Rise.nil : Rise [] (-5) := ⟨by simp, by simp, by decide, by simp, by simp, by simp, by simp⟩
theorem Rise.snoc {rs : List Ky} {A : Int} (h : Rise rs A) {k : Ky} (hl : rs.length < 40) (h1 : A + 1 ≤ k.t) (h2 : k.t ≤ A + 8) (v1 : -67108864 < k.v) (v2 : k.v < 67108864) (a1 : 0 ≤ k.h) (a2 : k.h ≤ 2) : Rise (rs ++ [k]) k.t := by
  have hb := h.bot
  have ht := h.top
  refine ⟨by simp; omega, by simp; omega, by omega, ?_, ?_, ?_, ?_⟩
  · intro i hi
    simp at hi
    by_cases e : i < rs.length
    · rw [ky_left e]; have := h.tick i e; omega
    · obtain rfl : i = rs.length := by omega
      rw [ky_last]; omega
  · intro i hi
    simp at hi
    by_cases e : i < rs.length
    · rw [ky_left e]; exact h.val i e
    · obtain rfl : i = rs.length := by omega
      rw [ky_last]; omega
  · intro i hi
    simp at hi
    by_cases e : i < rs.length
    · rw [ky_left e]; exact h.how i e
    · obtain rfl : i = rs.length := by omega
      rw [ky_last]; omega
  · intro i hi
    simp at hi
    by_cases e : i + 1 < rs.length
    · rw [ky_left e, ky_left (by omega)]; exact h.up i e
    · have e2 : i + 1 = rs.length := by omega
      rw [ky_left (by omega), e2, ky_last]
      have := (h.tick i (by omega)).2
      omega

theorem Try.infoKey : (Try.prog.info? 26).map (fun i => (i.zero, i.size, i.bytes)) = some (some (.agg #[.int .i64 0, .int .i64 0, .int .i64 0, .int .i64 0, .int .i64 0, .int .i64 0, .int .i64 0]), 7, 56) := by kernel_rfl
theorem seven_cells {w : World} {k : Ky} {t : TypeId} {g : Nat} (hg : w.heap.size = g) : ∀ j u, (kl k)[j]? = some u → (w.alloc (.cells (kCells k) t)).cell? ((⟨g, 0, none⟩ : Addr).add j) = some u := by
  intro j u hj
  subst hg
  match j, hj with
  | 0, hj => simp [kl] at hj; subst hj; simp [Addr.add]
  | 1, hj => simp [kl] at hj; subst hj; simp [Addr.add]
  | 2, hj => simp [kl] at hj; subst hj; simp [Addr.add]
  | 3, hj => simp [kl] at hj; subst hj; simp [Addr.add]
  | 4, hj => simp [kl] at hj; subst hj; simp [Addr.add]
  | 5, hj => simp [kl] at hj; subst hj; simp [Addr.add]
  | 6, hj => simp [kl] at hj; subst hj; simp [Addr.add]

theorem Own.alloc {w : World} {base : Nat} {v : Value} {ks : List Ky} (h : Own w base v ks) (o : Obj) : Own (w.alloc o) base v ks := World.ownsRow.alloc h o
theorem Own.snoc {w : World} {base : Nat} {v : Value} {ks : List Ky} {k : Ky} (h : w.ownsRow base 26 7 v (ks.length + 1) (kls ks ++ kl k)) : Own w base v (ks ++ [k]) := by
  unfold Own
  rw [kls_snoc, List.length_append]
  exact h
def Risen (w : World) (n : Nat) (e : Ending) (w' : World) : Prop := ∃ (v : Value) (rs : List Ky) (A : Int), e = .returned v ∧ rs.length = n ∧ Rise rs A ∧ Own w' w.heap.size v rs ∧ Below w.heap.size w w'
theorem rise_step {B : Nat} {w wr w2 : World} {v v' : Value} {rs : List Ky} {k : Ky} {A : Int} {o1 o2 : Obj} {n : Nat} (hl : rs.length = n) (hn : n < 40) (hrise : Rise rs A) (hsz : B ≤ wr.heap.size) (hown : Own wr B v rs) (hb : Below B w wr)
    (h1 : A + 1 ≤ k.t) (h2 : k.t ≤ A + 8) (v1 : -67108864 < k.v) (v2 : k.v < 67108864) (a1 : 0 ≤ k.h) (a2 : k.h ≤ 2)
    (hown' : w2.ownsRow B 26 7 v' (rs.length + 1) (kls rs ++ kl k)) (hg : ((wr.alloc o1).alloc o2).grownBy w2 v.ownBlock) :
    (rs ++ [k]).length = n + 1 ∧ Rise (rs ++ [k]) k.t ∧ Own w2 B v' (rs ++ [k]) ∧ Below B w w2 := by
  refine ⟨by simp [hl], hrise.snoc (by omega) h1 h2 v1 v2 a1 a2, Own.snoc hown', ?_⟩
  exact ((hb.alloc hsz o1).alloc (by simp; omega) o2).grown hg (by simp; omega) (fun j hj => (World.ownsRow.lt hown j hj).1)

set_option maxHeartbeats 2000000 in
theorem l5_rising1 (g o len cap : Nat) (ks : List Ky) (w : World) (hr : Row w g o ks) (hn : ks.length = min len 40) (h0 : 0 < len) (h63 : len ≤ 9223372036854775807) :
    Calls Try.prog 12 #[.slice (some ⟨g, o, none⟩) len cap] w (Risen w ks.length) := by
  obtain ⟨i0, hi, hz0, hz1, hz2⟩ := info_parts Try.infoKey
  have hg := hr.lt (by omega)
  have HR := Lib.hid hr
  clear hr
  obtain ⟨B, hB⟩ : ∃ B, w.heap.size = B := ⟨_, rfl⟩
  rw [hB] at hg
  have HW := Lib.hid hB
  go_enter Try.func12, Try.ntmps12
  go_wp2
  clear hB
  go_loopw [3, 4, 5, 6] (fun v at' i _ wr => ∃ (n : Nat) (rs : List Ky) (A : Int), n ≤ ks.length ∧ i = .int .i64 n ∧ at' = .int .i64 A ∧ rs.length = n ∧ Rise rs A ∧ Own wr B v rs ∧ Below B w wr) (fun _ _ i _ _ => ks.length - (intOf i).toNat)
  case atStart => exact ⟨0, [], -5, by omega, rfl, rfl, rfl, Rise.nil, Own.nil _ _, Below.refl _ _⟩
  case round =>
    obtain ⟨n, rs, A, hnl, rfl, rfl, hl, hrise, hown, hb⟩ := hrel
    have hsz : B ≤ wr.heap.size := by have := hb.size; have := HW.out; omega
    have A0 := hrise.bot
    have A1 : A ≤ 400 := by have := hrise.top; have := hrise.few; omega
    have HL := Lib.hid hl
    have HRI := Lib.hid hrise
    have HO := Lib.hid hown
    have HB := Lib.hid hb
    clear hl hrise hown hb
    by_cases hlt : n < ks.length
    · have hr := HR.out.below HB.out hg
      have c0 := hr.c0 n hlt
      have c1 := hr.c1 n hlt
      have c2 := hr.c2 n hlt
      have c3 := hr.c3 n hlt
      have c4 := hr.c4 n hlt
      have c5 := hr.c5 n hlt
      have c6 := hr.c6 n hlt
      clear hr
      have o1 : (n : Int) < len := by omega
      have o2 : (n : Int) < 40 := by omega
      generalize ky ks n = k at *
      obtain ⟨kt, kv, kh, ka, kb, kc, kd⟩ := k
      simp only at c0 c1 c2 c3 c4 c5 c6
      obtain ⟨X, hX, X0, X1⟩ : ∃ X, bits .and .i64 kt 7 = X ∧ 0 ≤ X ∧ X ≤ 7 := ⟨_, rfl, by rw [and_seven]; omega, by rw [and_seven]; omega⟩
      obtain ⟨V, hV, V0, V1⟩ : ∃ V, kv.tmod 67108864 = V ∧ -67108864 < V ∧ V < 67108864 := ⟨_, rfl, (tmod_bd _ _ (by decide)).1, (tmod_bd _ _ (by decide)).2⟩
      obtain ⟨T, hT, T0, T1⟩ : ∃ T, bits .and .i64 V 3 = T ∧ 0 ≤ T ∧ T ≤ 3 := ⟨_, rfl, by rw [and_three]; omega, by rw [and_three]; omega⟩
      obtain ⟨H, hH, H0, H1⟩ : ∃ H, T % 3 = H ∧ 0 ≤ H ∧ H ≤ 2 := ⟨_, rfl, by omega, by omega⟩
      by_cases h2 : H = 2
      · obtain ⟨a, ha⟩ : ∃ a, bits .and .i64 ka 65535 = a := ⟨_, rfl⟩
        obtain ⟨b, hb⟩ : ∃ b, kb.tmod 65536 = b := ⟨_, rfl⟩
        obtain ⟨c, hc⟩ : ∃ c, bits .and .i64 kc 65535 = c := ⟨_, rfl⟩
        obtain ⟨d, hd⟩ : ∃ d, kd.tmod 65536 = d := ⟨_, rfl⟩
        go_wp2_with (at_builtin; refine wpList_append_near _ rfl _ _ 22 rfl B 26 i0 (.agg #[.int .i64 0, .int .i64 0, .int .i64 0, .int .i64 0, .int .i64 0, .int .i64 0, .int .i64 0]) 7 56 Try.underlying22 hi hz0 hz1 hz2 rfl (by decide) _ _ _ rfl ((HO.out.alloc _).alloc _) ⟨wr.heap.size + 1, 0, none⟩ 1 1 (kl ⟨A + 1 + X, V, 2, a, b, c, d⟩) rfl rfl (seven_cells (by simp)) (ints_one_kl _) ?c3 ?c4 ?c5 ?_)
        case c3 => have := HL.out; unfold maxLen; omega
        case c4 => have := HL.out; omega
        case c5 => simp; omega
        intro v' w2 hown' hg' _
        have R := Lib.hid (rise_step HL.out (by omega) HRI.out hsz HO.out HB.out (by simp only; omega) (by simp only; omega) V0 V1 (by simp only; omega) (by simp only; omega) hown' hg')
        clear hown' hg' HO HRI HB HL c0 c1 c2 c3 c4 c5 c6 ha hb hc hd hX hV hT hH
        go_wp2
        go_roundw
        case rel =>
          obtain ⟨r1, r2, r3, r4⟩ := R.out
          exact ⟨n + 1, _, _, by omega, by go_num, rfl, r1, r2, r3, r4⟩
        case measure => simp [intOf]; omega
      · go_wp2_with (at_builtin; refine wpList_append_near _ rfl _ _ 22 rfl B 26 i0 (.agg #[.int .i64 0, .int .i64 0, .int .i64 0, .int .i64 0, .int .i64 0, .int .i64 0, .int .i64 0]) 7 56 Try.underlying22 hi hz0 hz1 hz2 rfl (by decide) _ _ _ rfl ((HO.out.alloc _).alloc _) ⟨wr.heap.size + 1, 0, none⟩ 1 1 (kl ⟨A + 1 + X, V, H, 0, 0, 0, 0⟩) rfl rfl (seven_cells (by simp)) (ints_one_kl _) ?d3 ?d4 ?d5 ?_)
        case d3 => have := HL.out; unfold maxLen; omega
        case d4 => have := HL.out; omega
        case d5 => simp; omega
        intro v' w2 hown' hg' _
        have R := Lib.hid (rise_step HL.out (by omega) HRI.out hsz HO.out HB.out (by simp only; omega) (by simp only; omega) V0 V1 (by simp only; omega) (by simp only; omega) hown' hg')
        clear hown' hg' HO HRI HB HL c0 c1 c2 c3 c4 c5 c6 hX hV hT hH
        go_wp2
        go_roundw
        case rel =>
          obtain ⟨r1, r2, r3, r4⟩ := R.out
          exact ⟨n + 1, _, _, by omega, by go_num, rfl, r1, r2, r3, r4⟩
        case measure => simp [intOf]; omega
    · have en : n = ks.length := by omega
      have R : Risen w ks.length (.returned u3) wr := ⟨_, rs, A, rfl, by rw [HL.out, en], HRI.out, by rw [HW.out]; exact HO.out, by rw [HW.out]; exact HB.out⟩
      have RH := Lib.hid R
      clear R HO HRI HB HL
      by_cases hlen : len ≤ 40
      · have o1 : (len : Int) ≤ n := by omega
        go_wp2
        go_ret
        exact RH.out
      · have o1 : (n : Int) < len := by omega
        have o2 : (40 : Int) ≤ n := by omega
        go_wp2
        go_ret
        exact RH.out
theorem l5_rising0 (ao : Option Addr) (cap : Nat) (w : World) :
    Calls Try.prog 12 #[.slice ao 0 cap] w (Risen w 0) := by
  have R : Risen w 0 (.returned (.slice none 0 0)) w := ⟨_, [], -5, rfl, rfl, Rise.nil, Own.nil _ _, Below.refl _ _⟩
  have RH := Lib.hid R
  clear R
  go_enter Try.func12, Try.ntmps12
  go_wp2
  go_loop [3, 4, 5, 6] (fun v _ i _ => v = .slice none 0 0 ∧ i = .int .i64 0) (fun _ _ _ _ => 0)
  case atStart => exact ⟨rfl, rfl⟩
  case round =>
    obtain ⟨rfl, rfl⟩ := hrel
    go_wp2
    go_ret
    exact RH.out
/-- A slice of keys that came in: none, or as many as its length says, of which the first forty are these. -/
def Arg (w : World) (v : Value) (ks : List Ky) : Prop := (ks = [] ∧ ∃ ao cap, v = .slice ao 0 cap) ∨ ∃ g o len cap, v = .slice (some ⟨g, o, none⟩) len cap ∧ 0 < len ∧ len ≤ cap ∧ cap ≤ 9223372036854775807 ∧ ks.length = min len 40 ∧ Row w g o ks
theorem l5_rising {v : Value} {ks : List Ky} {w : World} (h : Arg w v ks) :
    Calls Try.prog 12 #[v] w (Risen w ks.length) := by
  rcases h with ⟨rfl, ao, cap, rfl⟩ | ⟨g, o, len, cap, rfl, h0, h1, h2, hn, hr⟩
  · exact l5_rising0 ao cap w
  · exact l5_rising1 g o len cap ks w hr hn h0 (by omega)

end Go.Proofs.Yteikhmendjahnaa
