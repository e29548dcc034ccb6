/- An int's lowest bits; bytes as strings. No condition. -/
import Derived.Test.YtokonhcphhpogaaDoorSave
import Derived.IntWalk
namespace Go.Proofs.YtokonhcphhpogaaDoor
open Go.RowKit

theorem low_bits (k : Int) (m : Nat) (hm : m ≤ 65535) : ∃ q : Nat, bits .and .i64 k (m : Int) = (q : Int) ∧ q ≤ m := by
  have e : (BitVec.ofInt 64 (m : Int)).toNat = m := by rw [BitVec.ofInt_natCast, BitVec.toNat_ofNat]; omega
  have hq : (BitVec.ofInt 64 k &&& BitVec.ofInt 64 (m : Int)).toNat ≤ m := by
    rw [BitVec.toNat_and]
    have := Nat.and_le_right (n := (BitVec.ofInt 64 k).toNat) (m := (BitVec.ofInt 64 (m : Int)).toNat)
    omega
  refine ⟨(BitVec.ofInt 64 k &&& BitVec.ofInt 64 (m : Int)).toNat, ?_, hq⟩
  show IntKind.i64.wrap (((BitVec.ofInt 64 k &&& BitVec.ofInt 64 (m : Int)).toNat : Nat) : Int) = _
  generalize (BitVec.ofInt 64 k &&& BitVec.ofInt 64 (m : Int)).toNat = q at *
  exact IntWalk.i64_in _ (by omega)
theorem strBs (w : World) (A : Option Addr) (n c : Nat) (l : List UInt8) (hn : n = l.length) (hr : Rd w A (cb l)) :
    (convert 22 9 (.slice A n c)).run Tryd.prog w = .ok (.string (bstr l)) w :=
  run_str w _ _ 5 Tryd.underlying22 Tryd.underlying5 Tryd.underlying9 A c l n hn hr
def NoS : Nat → Prop := fun _ => False
end Go.Proofs.YtokonhcphhpogaaDoor
