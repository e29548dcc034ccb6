/- Pure: what a key has behind a change of it, or of another one. No condition. -/
import Derived.Test.YtkdcacajacndmaaSb
namespace Go.Proofs.Ytkdcacajacndmaa
open Go.RowKit
theorem mem_putS {key : Bs} {r : Rec} {rs : List Rw} {p : Rw} : p ∈ putL Op.bytesLess key r rs ↔ p = (key, r) ∨ (p ∈ rs ∧ p.1 ≠ key) := by
  unfold putL
  rw [List.mem_append, List.mem_cons, List.mem_filter, List.mem_filter]
  constructor
  · rintro (⟨h1, h2⟩ | h | ⟨h1, h2⟩)
    · exact .inr ⟨h1, less_ne h2⟩
    · exact .inl h
    · exact .inr ⟨h1, fun e => less_ne h2 e.symm⟩
  · rintro (h | ⟨h1, h2⟩)
    · exact .inr (.inl h)
    · cases e1 : Op.bytesLess p.1 key with
      | true => exact .inl ⟨h1, by first | rfl | exact e1⟩
      | false =>
        cases e2 : Op.bytesLess key p.1 with
        | true => exact .inr (.inr ⟨h1, by first | rfl | exact e2⟩)
        | false => exact absurd (less_total e1 e2) h2
theorem mem_delS {key : Bs} {rs : List Rw} {p : Rw} : p ∈ delL Op.bytesLess key rs ↔ p ∈ rs ∧ p.1 ≠ key := by
  unfold delL
  rw [List.mem_filter]
  constructor
  · rintro ⟨h1, h2⟩
    refine ⟨h1, fun e => ?_⟩
    rw [e, less_irrefl] at h2
    cases h2
  · rintro ⟨h1, h2⟩
    refine ⟨h1, ?_⟩
    cases e1 : Op.bytesLess p.1 key with
    | true => rfl
    | false =>
      cases e2 : Op.bytesLess key p.1 with
      | true => rfl
      | false => exact absurd (less_total e1 e2) h2
theorem rset_up {rs : List Rw} (hu : UpI Op.bytesLess rs) (key : Bs) (r : Rec) : UpI Op.bytesLess (rset rs key r) := by
  unfold rset
  split
  · exact hu.put linS
  · exact hu.del
theorem rget_congr {n : Int} {rs rs' : List Rw} (hu : UpI Op.bytesLess rs) (hu' : UpI Op.bytesLess rs') {key : Bs} (h : ∀ r, (key, r) ∈ rs ↔ (key, r) ∈ rs') : rget n rs key = rget n rs' key := by
  by_cases e : ∃ r, (key, r) ∈ rs
  · obtain ⟨r, hr⟩ := e
    rw [rget_yes hu hr, rget_yes hu' ((h r).1 hr)]
  · rw [rget_no fun r hr => e ⟨r, hr⟩, rget_no fun r hr => e ⟨r, (h r).2 hr⟩]
theorem rget_rset_ne {n : Int} {rs : List Rw} (hu : UpI Op.bytesLess rs) {k2 key : Bs} (r : Rec) (h : k2 ≠ key) : rget n (rset rs k2 r) key = rget n rs key := by
  refine rget_congr (rset_up hu _ _) hu fun r' => ?_
  unfold rset
  split
  · rw [mem_putS]
    constructor
    · rintro (e | e)
      · injection e with e
        exact absurd e.symm h
      · exact e.1
    · exact fun e => .inr ⟨e, fun e2 => h e2.symm⟩
  · rw [mem_delS]
    exact ⟨fun e => e.1, fun e => ⟨e, fun e2 => h e2.symm⟩⟩
theorem rget_rset {n : Int} {rs : List Rw} (hu : UpI Op.bytesLess rs) (key : Bs) (r : Rec) (h : (r.has || r.count != 0) = true) : rget n (rset rs key r) key = r := by
  refine rget_yes (rset_up hu _ _) ?_
  unfold rset
  rw [if_pos h, mem_putS]
  exact .inl rfl
theorem rget_rset_no {n : Int} {rs : List Rw} (key : Bs) (r : Rec) (h : (r.has || r.count != 0) = false) : rget n (rset rs key r) key = ⟨false, [], homeOf key n, 0⟩ := by
  refine rget_no fun r' hr => ?_
  unfold rset at hr
  rw [if_neg (by rw [h]; exact Bool.false_ne_true), mem_delS] at hr
  exact hr.2 rfl
theorem eq_bstr {a b : Bs} (h : a = b) : ((bstr a).toList == (bstr b).toList) = true := by rw [h]; simp
theorem ne_bstr {a b : Bs} (h : a ≠ b) : ((bstr a).toList == (bstr b).toList) = false := by
  rw [bstr_toList, bstr_toList]
  exact beq_eq_false_iff_ne.2 h
end Go.Proofs.Ytkdcacajacndmaa
