/- The contract of the program's check sum: for every slice of bytes and every world whose table holds its sixteen numbers, Sum answers the CRC-32C of the bytes and leaves the world as it was. -/
import Derived.Test.YtafiokabnlmgpaaGreatDoorProg
import Derived.Test.YtafiokabnlmgpaaGreatDoorCrc
import Derived.Test.YtafiokabnlmgpaaGreatDoorMem
namespace Go.Proofs.YtafiokabnlmgpaaGreatDoor
open Go.RowKit

def Tab (w : World) : Prop := ∀ i, i < 16 → w.cell? ⟨0, i, none⟩ = some (.int .u32 ((Crc.tab.getD i 0#32).toNat : Int))

theorem u32_bv (a b : BitVec 32) : bits .xor .u32 (a.toNat : Int) (b.toNat : Int) = ((a ^^^ b).toNat : Int) := by
  rw [u32_xor_nat _ _ a.isLt b.isLt, BitVec.toNat_xor]
theorem u32_low (a : BitVec 32) : bits .and .u32 (a.toNat : Int) 15 = ((a.toNat % 16 : Nat) : Int) := by
  rw [show (15 : Int) = ((15 : Nat) : Int) from rfl, u32_and_nat _ _ a.isLt (by omega), nat_mask4]
theorem u32_shr (a b : BitVec 32) : bits .xor .u32 ((a.toNat : Int) / 16) (b.toNat : Int) = (((a >>> 4) ^^^ b).toNat : Int) := by
  rw [← u32_bv, BitVec.toNat_ushiftRight, Nat.shiftRight_eq_div_pow]; rfl
theorem u32_not (a : BitVec 32) : bits .xor .u32 IntKind.u32.max (a.toNat : Int) = ((~~~ a).toNat : Int) := by
  rw [show IntKind.u32.max = (((0xffffffff#32 : BitVec 32).toNat : Nat) : Int) from rfl, u32_bv]
  refine congrArg (fun q : BitVec 32 => (q.toNat : Int)) ?_
  apply BitVec.eq_of_getLsbD_eq
  intro i hi
  rw [BitVec.getLsbD_xor, BitVec.getLsbD_not, show (0xffffffff#32 : BitVec 32) = BitVec.allOnes 32 by decide, BitVec.getLsbD_allOnes]
  simp [hi]
theorem u8_u32 (x : UInt8) : ((x.toNat : Int) % 4294967296) = ((x.toBitVec.setWidth 32).toNat : Int) := by
  rw [BitVec.toNat_setWidth, UInt8.toNat_toBitVec, Int.natCast_emod]; rfl

theorem Tab.fr {C : Nat → Prop} {w w' : World} (h : Tab w) (hf : Fr C w w') (h0 : ¬ C 0) : Tab w' := fun i hi =>
  (hf.cell (World.block_lt_of_cell? w _ (h i hi)) h0).trans (h i hi)

theorem sum_any (w : World) (ht : Tab w) (l : List UInt8) (A : Option Addr) (n c : Nat) (hn : n = l.length) (hm : l.length ≤ 1000000000) (hr : Rd w A (cb l)) :
    Calls Tryz.prog 177 #[.slice A n c] w fun e w' => e = .returned (.int .u32 ((Crc.crc l).toNat : Int)) ∧ w = w' := by
  subst hn
  have HT := Lib.hid ht
  have HR := Lib.hid hr
  clear ht hr
  go_enter Tryz.func177, Tryz.ntmps177
  go_wp2
  go_loop [3, 8] (fun s i => ∃ k : Nat, k ≤ l.length ∧ i = .int .i64 k ∧ s = .int .u32 (((l.take k).foldl Crc.byt 0xffffffff#32).toNat : Int)) (fun _ i => l.length - (intOf i).toNat)
  case atStart => exact ⟨0, Nat.zero_le _, rfl, rfl⟩
  case round =>
    obtain ⟨k, hk, rfl, rfl⟩ := hrel
    by_cases hlt : k < l.length
    · obtain ⟨b, o, rfl, hcell⟩ := HR.out.byte hlt
      have HS := Lib.hid (show (l.take (k + 1)).foldl Crc.byt 0xffffffff#32 = Crc.byt ((l.take k).foldl Crc.byt 0xffffffff#32) (l.getD k 0) by
        rw [List.take_succ_eq_append_getElem hlt, List.foldl_append]; simp [List.getD_eq_getElem?_getD, hlt])
      generalize (l.take k).foldl Crc.byt 0xffffffff#32 = r at *
      generalize l.getD k 0 = x at *
      have e1 := u8_u32 x
      have e2 := u32_bv r (x.toBitVec.setWidth 32)
      have HB := Lib.hid (Crc.byt_half r x)
      generalize x.toBitVec.setWidth 32 = xb at *
      generalize r ^^^ xb = s at *
      have e3 := u32_low s
      have c3 := HT.out (s.toNat % 16) (by omega)
      have HC := Lib.hid (show Crc.half s = s >>> 4 ^^^ Crc.tab.getD (s.toNat % 16) 0#32 from rfl)
      generalize Crc.tab.getD (s.toNat % 16) 0#32 = t3 at *
      have e4 := u32_shr s t3
      generalize s >>> 4 ^^^ t3 = s2 at *
      have e5 := u32_low s2
      have c5 := HT.out (s2.toNat % 16) (by omega)
      have HD := Lib.hid (show Crc.half s2 = s2 >>> 4 ^^^ Crc.tab.getD (s2.toNat % 16) 0#32 from rfl)
      generalize Crc.tab.getD (s2.toNat % 16) 0#32 = t5 at *
      have e6 := u32_shr s2 t5
      generalize s2 >>> 4 ^^^ t5 = s3 at *
      go_wp2
      go_round
      case rel => exact ⟨k + 1, by omega, by go_num, by rw [HS.out, HB.out, HC.out, HD.out]⟩
      case measure => simp [intOf]; omega
    · have e1 := u32_not ((l.take k).foldl Crc.byt 0xffffffff#32)
      have HS := Lib.hid (show ~~~ ((l.take k).foldl Crc.byt 0xffffffff#32) = Crc.crc l by rw [List.take_of_length_le (by omega)]; rfl)
      generalize (l.take k).foldl Crc.byt 0xffffffff#32 = r at *
      generalize ~~~ r = r2 at *
      go_wp2
      all_goals
        go_ret
        exact ⟨by rw [← HS.out]; rfl, rfl⟩
end Go.Proofs.YtafiokabnlmgpaaGreatDoor
