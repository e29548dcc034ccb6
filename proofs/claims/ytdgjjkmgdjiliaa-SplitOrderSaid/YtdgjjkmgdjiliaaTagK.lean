/- Tags as keys of maps. Conditions: their numbers are of their types. -/
import Derived.Test.YtdgjjkmgdjiliaaKg
import Derived.Test.YtdgjjkmgdjiliaaOrd
import Derived.Test.YtdgjjkmgdjiliaaLawp
import Derived.DeepKeys4
namespace Go.Proofs.Ytdgjjkmgdjiliaa
open Go.RowKit Go.Maps

structure Tg where
  node : Int
  epoch : Nat
  seq : Nat
  tr : Int
deriving DecidableEq
def tgv (t : Tg) : Value := .agg #[.int .i64 t.node, .int .u64 (t.epoch : Int), .int .u64 (t.seq : Int), .int .i64 t.tr]
structure TgOk (t : Tg) : Prop where
  node : (Lit.int .i64 t.node).wf = true
  epoch : t.epoch < two64
  seq : t.seq < two64
  tr : (Lit.int .i64 t.tr).wf = true
theorem u64_ok {n : Nat} (h : n < two64) : (Lit.int .u64 (n : Int)).wf = true := by
  unfold two64 at h
  simp only [Lit.wf, Bool.and_eq_true, decide_eq_true_eq, show IntKind.min .u64 = 0 from by decide, show IntKind.max .u64 = 18446744073709551615 from by decide]
  omega
theorem tag_row : 31 < Try.prog.types.size := of_decide_eq_true (by kernel_rfl)
theorem tag_wide : (match Try.prog.underlying 31 with | some (.array _ _) | some (.struct _) => true | _ => false) = true := by rw [Try.underlying31]
set_option maxRecDepth 100000 in
theorem tag_keyed : Keyed Try.prog 31 := Keyed.of_law (deep_law_laid laidOut (m := 3) (by omega) tag_row (by kernel_rfl) tag_wide)
noncomputable def tgl (t : Tg) : Lit := (keyOf Try.prog 31 (tgv t)).getD .nil
theorem tag_cells : Try.prog.cellsOf 31 = 4 := by kernel_rfl
theorem id_cells : Try.prog.cellsOf 29 = 3 := by kernel_rfl
theorem int_cells : Try.prog.cellsOf 3 = 1 := by kernel_rfl
theorem u64_cells : Try.prog.cellsOf 27 = 1 := by kernel_rfl
theorem tag_keyType : Try.prog.keyType 31 = true := by kernel_rfl
set_option maxRecDepth 100000 in
theorem tag_at (t : Tg) (h : TgOk t) : keyOf Try.prog 31 (tgv t) = some (tgl t) := by
  have h1 := h.node
  have h2 := u64_ok h.epoch
  have h3 := u64_ok h.seq
  have h4 := h.tr
  have hn : ∃ n, Try.prog.types.size = n + 2 := ⟨Try.prog.types.size - 2, by kernel_rfl⟩
  obtain ⟨n, hn⟩ := hn
  have hs : (keyOf Try.prog 31 (tgv t)).isSome = true := by
    unfold keyOf
    rw [Try.underlying31, hn]
    simp [tag_keyType, Value.formed, Program.keyLits, tgv, Value.cells, Try.underlying31, Try.underlying29, Try.underlying3, Try.underlying27, tag_cells, id_cells, int_cells, u64_cells, h1, h2, h3, h4]
    rw [if_pos (by decide)]
    rfl
  unfold tgl
  cases hk : keyOf Try.prog 31 (tgv t) with
  | none => rw [hk] at hs; cases hs
  | some l => rfl
theorem tagKeyT : KeyT Try.prog 31 tgv tgl TgOk :=
  ⟨tag_keyed, tag_at, fun x y hx hy h => by
    have h1 := tag_at x hx
    have h2 := tag_at y hy
    rw [h] at h1
    have h3 := tag_keyed.inj h1 h2
    obtain ⟨a, b, c, d⟩ := x
    obtain ⟨a', b', c', d'⟩ := y
    simp only [tgv, Value.agg.injEq, Array.mk.injEq, List.cons.injEq, Value.int.injEq, true_and, and_true] at h3
    obtain ⟨e1, e2, e3, e4⟩ := h3
    have e2 := Int.ofNat.inj e2
    have e3 := Int.ofNat.inj e3
    subst e1 e2 e3 e4
    rfl⟩
end Go.Proofs.Ytdgjjkmgdjiliaa
