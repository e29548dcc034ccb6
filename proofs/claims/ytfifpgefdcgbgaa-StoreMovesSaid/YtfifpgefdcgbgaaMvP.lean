/- How many keys have values, behind a Put of any record; pure. No condition. -/
import Derived.Test.YtfifpgefdcgbgaaRfA
namespace Go.Proofs.Ytfifpgefdcgbgaa
open Go.RowKit
def hasN (rs : List Rw) : Nat := rs.countP fun x => x.2.has
def oneB (b : Bool) : Nat := if b then 1 else 0
theorem range_len {k : Nat} {rs : List Rw} (h : rs.length ≤ k) (hk : k ≤ 1000) : (rrange [] 1000 rs).length = hasN rs := by
  rw [range_all h hk]
  unfold hasN
  rw [List.countP_eq_length_filter]
  refine congrArg _ (List.filter_congr fun x _ => ?_)
  unfold inR
  have : Op.bytesLess x.1 [] = false := by cases x.1 <;> rfl
  rw [this]
  simp
theorem hasN_split (key : Bs) (rs : List Rw) : hasN rs = hasN (rs.filter fun p => Op.bytesLess p.1 key) + hasN (rs.filter fun p => Op.bytesLess key p.1) + hasN (rs.filter fun x => x.1 == key) := by
  unfold hasN
  induction rs with
  | nil => rfl
  | cons x t ih =>
    rw [List.countP_cons, ih]
    cases h1 : Op.bytesLess x.1 key with
    | true =>
      have h2 := linS.asymm h1
      have h3 : (x.1 == key) = false := beq_eq_false_iff_ne.2 (linS.ne h1)
      simp only [List.filter_cons, h1, h2, h3, if_true, Bool.false_eq_true, if_false, List.countP_cons]
      omega
    | false =>
      cases h2 : Op.bytesLess key x.1 with
      | true =>
        have h3 : (x.1 == key) = false := beq_eq_false_iff_ne.2 fun e => linS.ne h2 e.symm
        simp only [List.filter_cons, h1, h2, h3, if_true, Bool.false_eq_true, if_false, List.countP_cons]
        omega
      | false =>
        have h3 : (x.1 == key) = true := beq_iff_eq.2 (linS.tot h1 h2)
        simp only [List.filter_cons, h1, h2, h3, if_true, Bool.false_eq_true, if_false, List.countP_cons]
        omega
theorem hasN_key (n : Int) (key : Bs) {rs : List Rw} (hu : UpI Op.bytesLess rs) : hasN (rs.filter fun x => x.1 == key) = oneB (rget n rs key).has := by
  unfold hasN
  induction rs with
  | nil => rfl
  | cons x t ih =>
    have hp := List.pairwise_cons.1 hu
    by_cases hx : x.1 = key
    · have h3 : (x.1 == key) = true := beq_iff_eq.2 hx
      have ht : (t.filter fun y => y.1 == key) = [] := List.filter_eq_nil_iff.2 fun y hy => by
        have h1 := hp.1 y hy
        rw [hx] at h1
        simpa using Ne.symm (linS.ne h1)
      have hg : rget n (x :: t) key = x.2 := by unfold rget; rw [List.find?_cons, h3]; rfl
      rw [hg, List.filter_cons, if_pos h3, ht, List.countP_cons, List.countP_nil]
      unfold oneB
      cases x.2.has <;> rfl
    · have h3 : (x.1 == key) = false := beq_eq_false_iff_ne.2 hx
      have hg : rget n (x :: t) key = rget n t key := by unfold rget; rw [List.find?_cons, h3]
      rw [hg, ← ih hp.2, List.filter_cons, if_neg (by rw [h3]; simp)]
theorem hasN_put (n : Int) (key : Bs) (r : Rec) {rs : List Rw} (hu : UpI Op.bytesLess rs) (hr : (r.has || r.count != 0) = true) : hasN (rset rs key r) + oneB (rget n rs key).has = hasN rs + oneB r.has := by
  have h1 := hasN_split key rs
  rw [hasN_key n key hu] at h1
  have h2 : hasN (rset rs key r) = hasN (rs.filter fun p => Op.bytesLess p.1 key) + oneB r.has + hasN (rs.filter fun p => Op.bytesLess key p.1) := by
    unfold rset
    rw [if_pos hr]
    unfold putL hasN oneB
    rw [List.countP_append, List.countP_cons]
    dsimp only
    generalize (if r.has = true then 1 else 0) = b
    rw [Nat.add_assoc _ b, Nat.add_comm b]
  omega
end Go.Proofs.Ytfifpgefdcgbgaa
