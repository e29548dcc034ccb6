/- What is alike is right alike. No condition. -/
import Derived.Test.YtdgjjkmgdjiliaaRight4
import Derived.Test.YtdgjjkmgdjiliaaSame
namespace Go.Proofs.Ytdgjjkmgdjiliaa
open Go.RowKit

theorem Alike.any {xs ys : List Opn} (h : Alike xs ys) {f g : Opn → Bool} (hfg : ∀ x y : Opn, x.kind = y.kind → x.key = y.key → x.val.2.2 = y.val.2.2 → x.n = y.n → f x = g y) : xs.any f = ys.any g := by
  induction xs generalizing ys with
  | nil =>
    cases ys with
    | nil => rfl
    | cons y s => exact absurd h.1 (by simp)
  | cons x t ih =>
    cases ys with
    | nil => exact absurd h.1 (by simp)
    | cons y s =>
      rw [List.any_cons, List.any_cons]
      have h0 := h.2 0 x y rfl rfl
      rw [hfg x y h0.1 h0.2.1 h0.2.2.1 h0.2.2.2, ih ⟨by have := h.1; simpa using this, fun j a b ha hb => h.2 (j + 1) a b ha hb⟩]
theorem right_alike {w w' : World} {t u : Tx} (h : Copied w w' t u) (r : Int) : rightR u r = rightR t r := by
  have e1 : keysR u = keysR t := by unfold keysR; rw [h.reads, h.writes]
  have e2 : kindR u r = kindR t r := by
    unfold kindR
    rw [h.kind, h.to_, h.reads, h.writes, h.ops.1, h.ops.any (g := fun x => !opR t x)]
    intro x y a b c d
    unfold opR
    rw [h.reads, h.writes, a, b, c, d]
  unfold rightR
  rw [e1, e2]
theorem Copied.small {w w' : World} {t u : Tx} (h : Copied w w' t u) (hs : Small t) : Small u := by
  refine ⟨by rw [h.reads]; exact hs.r, by rw [h.writes]; exact hs.w, by rw [h.ops.1]; exact hs.o, by rw [h.reads]; exact hs.rk, by rw [h.writes]; exact hs.wk, fun x hx => ?_⟩
  obtain ⟨j, hj, rfl⟩ := List.getElem_of_mem hx
  have hj2 : j < t.ops.length := by rw [← h.ops.1]; exact hj
  obtain ⟨_, b, c, _⟩ := h.ops.2 j _ _ (List.getElem?_eq_getElem hj) (List.getElem?_eq_getElem hj2)
  rw [b, c]
  exact hs.ok _ (List.getElem_mem hj2)
/-- a transaction's five cells. -/
theorem Bk.txn {w : World} {g : Nat} {T : TypeId} {t : Tx} (h : Bk w g T (txa t)) :
    w.cell? ⟨g, 0, none⟩ = some (.int .i64 t.kind) ∧ w.cell? ⟨g, 1, none⟩ = some (.slice t.ra t.reads.length t.rc) ∧ w.cell? ⟨g, 2, none⟩ = some (.slice t.wa t.writes.length t.wc) ∧ w.cell? ⟨g, 3, none⟩ = some (.slice t.oa t.ops.length t.oc) ∧ w.cell? ⟨g, 4, none⟩ = some (.int .i64 t.to) :=
  ⟨h.cell 0, h.cell 1, h.cell 2, h.cell 3, h.cell 4⟩
end Go.Proofs.Ytdgjjkmgdjiliaa
