/- An order's bytes: plain mathematics. No condition. -/
import Derived.Test.YtakbjjohfcgaoaaNum
import Derived.Test.YtakbjjohfcgaoaaOCheck
namespace Go.Proofs.Ytakbjjohfcgaoaa

def nums (ns : List Nat) : List UInt8 := ns.flatMap num
def textB (t : Bs) : List UInt8 := num t.length ++ t
def keysB (ks : List Bs) : List UInt8 := num ks.length ++ ks.flatMap textB
def foldN (n : Int) : Nat := if 0 ≤ n then 2 * n.toNat else 2 * (-1 - n).toNat + 1
def opB (x : Opn) : List UInt8 := num x.kind.toNat ++ (textB x.key ++ (textB x.val.2.2 ++ num (foldN x.n)))
def txnB (t : Tx) : List UInt8 := nums [t.kind.toNat, t.to.toNat] ++ (keysB t.reads ++ (keysB t.writes ++ (num t.ops.length ++ t.ops.flatMap opB)))
def markB (m : Mk) : List UInt8 := nums [m.home.toNat, m.count]
def orderB (o : Od) : List UInt8 := nums [o.node.toNat, o.epoch, o.seq, o.tr.toNat] ++ (txnB o.t ++ o.marks.flatMap markB)

theorem nums_snoc (ns : List Nat) (k n : Nat) (h : ns[k]? = some n) : nums (ns.take (k + 1)) = nums (ns.take k) ++ num n := by
  obtain ⟨hk, rfl⟩ := List.getElem?_eq_some_iff.1 h
  unfold nums
  rw [List.take_succ_eq_append_getElem hk, List.flatMap_append]
  simp
theorem flat_snoc {α : Type} (f : α → List UInt8) (xs : List α) (k : Nat) (x : α) (h : xs[k]? = some x) : (xs.take (k + 1)).flatMap f = (xs.take k).flatMap f ++ f x := by
  obtain ⟨hk, rfl⟩ := List.getElem?_eq_some_iff.1 h
  rw [List.take_succ_eq_append_getElem hk, List.flatMap_append]
  simp
theorem flat_le {α : Type} (f : α → List UInt8) (xs : List α) (k : Nat) : ((xs.take k).flatMap f).length ≤ (xs.flatMap f).length := by
  conv => rhs; rw [← List.take_append_drop k xs]
  rw [List.flatMap_append, List.length_append]
  omega
theorem nums_le (ns : List Nat) (k : Nat) : (nums (ns.take k)).length ≤ (nums ns).length := flat_le num ns k
def nB (n : Int) : Prop := -9223372036854775808 ≤ n ∧ n ≤ 9223372036854775807
theorem foldN_lt {n : Int} (h : nB n) : foldN n < 2 ^ 64 := by
  unfold foldN nB at *
  split <;> omega
theorem foldN_inj {a b : Int} (h : foldN a = foldN b) : a = b := by
  unfold foldN at h
  split at h <;> split at h <;> omega
/-- numbers as cells. -/
def uc (ns : List Nat) : List Value := ns.map fun (n : Nat) => .int .u64 (n : Int)
theorem uc_len (ns : List Nat) : (uc ns).length = ns.length := by simp [uc]
theorem uc_get (ns : List Nat) (k n : Nat) (h : ns[k]? = some n) : (uc ns)[k]? = some (.int .u64 (n : Int)) := by simp [uc, h]
end Go.Proofs.Ytakbjjohfcgaoaa
