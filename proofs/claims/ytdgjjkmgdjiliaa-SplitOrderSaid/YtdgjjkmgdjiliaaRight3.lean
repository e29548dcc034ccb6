/- The document's Right. Conditions: the transaction is small. -/
import Derived.Test.YtdgjjkmgdjiliaaRef
import Derived.Test.YtdgjjkmgdjiliaaGreat
import Derived.Test.YtdgjjkmgdjiliaaCheck
import Derived.Test.YtdgjjkmgdjiliaaApp
namespace Go.Proofs.Ytdgjjkmgdjiliaa
open Go.RowKit

/-- what the document's loops over the keys ask. -/
def keyOk (t : Tx) (j : Nat) (k : Bs) : Bool := decide (1 ≤ k.length) && decide (k.length ≤ 16) && !(decide (j < t.reads.length) && inB t.writes k)
def docR (t : Tx) (r : Int) : Bool :=
  decide (1 ≤ r) && decide (r ≤ 3) && riseB t.reads && riseB t.writes && decide (t.reads.length + t.writes.length ≤ 8) &&
  (List.range (t.reads ++ t.writes).length).all (fun j => keyOk t j ((t.reads ++ t.writes).getD j [])) && kindR t r
theorem noKey_iff (k : Bs) : noKey k = !(decide (1 ≤ k.length) && decide (k.length ≤ 16)) := by
  cases k with
  | nil => rfl
  | cons x t =>
    rw [noKey, List.isEmpty_cons, Bool.false_or, Bool.eq_iff_iff]
    simp
    omega
theorem docR_eq (t : Tx) (r : Int) : docR t r = rightR t r := by
  have key : (List.range (t.reads ++ t.writes).length).all (fun j => keyOk t j ((t.reads ++ t.writes).getD j [])) = (!(t.reads.any (inB t.writes)) && !(t.reads.any noKey) && !(t.writes.any noKey)) := by
    rw [Bool.eq_iff_iff]
    simp only [List.all_eq_true, List.mem_range, Bool.and_eq_true, Bool.not_eq_true', List.any_eq_false]
    constructor
    · intro h
      refine ⟨⟨fun k hk => ?_, fun k hk => ?_⟩, fun k hk => ?_⟩
      · obtain ⟨j, hj, rfl⟩ := List.getElem_of_mem hk
        have := h j (by rw [List.length_append]; omega)
        rw [List.getD_eq_getElem?_getD, List.getElem?_append_left hj, List.getElem?_eq_getElem hj, Option.getD_some] at this
        simp only [keyOk, Bool.and_eq_true, Bool.not_eq_true', Bool.and_eq_false_iff, decide_eq_true_eq, decide_eq_false_iff_not] at this
        rcases this.2 with h1 | h1
        · exact absurd hj h1
        · rw [h1]; simp
      · obtain ⟨j, hj, rfl⟩ := List.getElem_of_mem hk
        have := h j (by rw [List.length_append]; omega)
        rw [List.getD_eq_getElem?_getD, List.getElem?_append_left hj, List.getElem?_eq_getElem hj, Option.getD_some] at this
        simp only [keyOk, Bool.and_eq_true] at this
        rw [noKey_iff, this.1.1, this.1.2]; simp
      · obtain ⟨j, hj, rfl⟩ := List.getElem_of_mem hk
        have := h (t.reads.length + j) (by rw [List.length_append]; omega)
        rw [List.getD_eq_getElem?_getD, List.getElem?_append_right (by omega), show t.reads.length + j - t.reads.length = j by omega, List.getElem?_eq_getElem hj, Option.getD_some] at this
        simp only [keyOk, Bool.and_eq_true] at this
        rw [noKey_iff, this.1.1, this.1.2]; simp
    · rintro ⟨⟨h1, h2⟩, h3⟩ j hj
      rw [List.length_append] at hj
      rw [keyOk, Bool.and_eq_true, Bool.not_eq_true']
      by_cases hlt : j < t.reads.length
      · rw [List.getD_eq_getElem?_getD, List.getElem?_append_left hlt, List.getElem?_eq_getElem hlt, Option.getD_some]
        have a := h1 _ (List.getElem_mem hlt)
        have b := h2 _ (List.getElem_mem hlt)
        rw [noKey_iff] at b
        refine ⟨by simpa only [Bool.not_eq_true', Bool.not_eq_false] using b, ?_⟩
        simp only [Bool.not_eq_true] at a
        rw [a]; simp
      · rw [List.getD_eq_getElem?_getD, List.getElem?_append_right (by omega), List.getElem?_eq_getElem (by omega), Option.getD_some]
        have b := h3 _ (List.getElem_mem (show j - t.reads.length < t.writes.length by omega))
        rw [noKey_iff] at b
        refine ⟨by simpa only [Bool.not_eq_true', Bool.not_eq_false] using b, ?_⟩
        rw [decide_eq_false hlt]; rfl
  unfold docR rightR keysR
  rw [key]
  cases decide (1 ≤ r) <;> cases decide (r ≤ 3) <;> cases riseB t.reads <;> cases riseB t.writes <;> cases decide (t.reads.length + t.writes.length ≤ 8) <;> simp
end Go.Proofs.Ytdgjjkmgdjiliaa
