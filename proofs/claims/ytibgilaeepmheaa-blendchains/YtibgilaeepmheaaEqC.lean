/- Two arrays of four numbers compared, for every program: true just if each of the four is the same; and colours. -/
import Derived.Test.YtibgilaeepmheaaHM
import Derived.ChangeKeysEq
namespace Go.Proofs.Ytibgilaeepmheaa
open Go Go.RowKit

section
variable {P : Program} (w : World)
theorem run_equalIn_four {t e : TypeId} {k : IntKind} (D : Nat) (ht : P.underlying t = some (.array 4 e)) (he : P.underlying e = some (.int k)) (hs : (sizeOf e).run P w = .ok 1 w) (a b c d a' b' c' d' : Int) :
    (Op.equalIn (D + 1 + 1) t (.agg #[.int k a, .int k b, .int k c, .int k d]) (.agg #[.int k a', .int k b', .int k c', .int k d'])).run P w = .ok ((a == a') && ((b == b') && ((c == c') && (d == d')))) w := by
  have hp : P.plainKey e = true := by simp [Program.plainKey, he]
  have q : ∀ (x y : Int), (Op.equalIn (D + 1) e (.int k x) (.int k y)).run P w = .ok (x == y) w := fun x y => run_equalIn_int w D e k k x y he
  have p0 : ∀ (x0 x1 x2 x3 : Value), (part e #[x0, x1, x2, x3] 0).run P w = .ok x0 w := fun _ _ _ _ => run_part_plain w hp rfl
  have p1 : ∀ (x0 x1 x2 x3 : Value), (part e #[x0, x1, x2, x3] 1).run P w = .ok x1 w := fun _ _ _ _ => run_part_plain w hp rfl
  have p2 : ∀ (x0 x1 x2 x3 : Value), (part e #[x0, x1, x2, x3] 2).run P w = .ok x2 w := fun _ _ _ _ => run_part_plain w hp rfl
  have p3 : ∀ (x0 x1 x2 x3 : Value), (part e #[x0, x1, x2, x3] 3).run P w = .ok x3 w := fun _ _ _ _ => run_part_plain w hp rfl
  rw [Op.equalIn]
  simp only [Sem.run_bind, run_underlying ht, Result.andThen_ok, hs, Std.Legacy.Range.forIn_eq_forIn_range', Std.Legacy.Range.size, Nat.sub_zero, Nat.add_sub_cancel, Nat.div_one, List.range'_succ, List.range'_zero, List.forIn_cons, List.forIn_nil, Nat.mul_one, Nat.zero_add, Nat.reduceAdd, p0, q]
  generalize (a == a') = A
  generalize eb : (b == b') = B
  generalize ec : (c == c') = C
  generalize ed : (d == d') = E
  cases A
  · simp
  · cases B
    · simp [p1, q, eb]
    · cases C
      · simp [p1, p2, q, eb, ec]
      · cases E
        · simp [p1, p2, p3, q, eb, ec, ed]
        · simp [p1, p2, p3, q, eb, ec, ed]
end

open M
theorem size_u8 (w : World) : (sizeOf 5).run Try.prog w = .ok 1 w := by
  have h : (Try.prog.info? 5).map (fun i => i.size) = some 1 := by kernel_rfl
  cases hi : Try.prog.info? 5 with
  | none => rw [hi] at h; cases h
  | some i =>
    rw [hi] at h
    have hs : i.size = 1 := by simpa using h
    simp only [sizeOf, Sem.run_bind, run_typeInfo w hi, Result.andThen_ok, hs, Sem.run_pure]
theorem eq_color (w : World) (a b c d a' b' c' d' : Int) :
    (Op.equalIn 10000 29 (.agg #[.int .u8 a, .int .u8 b, .int .u8 c, .int .u8 d]) (.agg #[.int .u8 a', .int .u8 b', .int .u8 c', .int .u8 d'])).run Try.prog w = .ok ((a == a') && ((b == b') && ((c == c') && (d == d')))) w :=
  run_equalIn_four w 9998 Try.underlying29 Try.underlying5 (size_u8 w) a b c d a' b' c' d'
theorem eq_color_same (w : World) (x : Cr) : (Op.equalIn 10000 29 (.agg (cCells x)) (.agg (cCells x))).run Try.prog w = .ok true w := by
  rw [eq_color]; simp

end Go.Proofs.Ytibgilaeepmheaa
