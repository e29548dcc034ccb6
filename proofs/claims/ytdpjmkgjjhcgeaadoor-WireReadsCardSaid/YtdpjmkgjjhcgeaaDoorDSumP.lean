/- Rows of bits as numbers, and what the document's check sum keeps from round to round. -/
import Derived.Test.YtdpjmkgjjhcgeaaDoorDiv
import Derived.Test.YtdpjmkgjjhcgeaaDoorRow
namespace Go.Proofs.YtdpjmkgjjhcgeaaDoor

def bi (b : Bool) : Int := if b then 1 else 0
def ib (L : List Bool) : List Value := L.map fun b => .int .i64 (bi b)
theorem ib_length (L : List Bool) : (ib L).length = L.length := by simp [ib]
theorem ib_append (L M : List Bool) : ib (L ++ M) = ib L ++ ib M := by simp [ib]
theorem ib_get (L : List Bool) (k : Nat) (h : k < L.length) : (ib L)[k]? = some (.int .i64 (bi (L.getD k false))) := by
  simp [ib, h, List.getD_eq_getElem?_getD]
theorem ib_set (L : List Bool) (k : Nat) (b : Bool) : (ib L).set k (.int .i64 (bi b)) = ib (L.set k b) := by
  unfold ib
  rw [List.map_set]
theorem ib_one (L : List Bool) : ∀ u ∈ ib L, u.oneCell' = true := by
  intro u hu
  simp only [ib, List.mem_map] at hu
  obtain ⟨x, _, rfl⟩ := hu
  rfl
theorem bi_not (b : Bool) : 1 - bi b = bi (!b) := by cases b <;> rfl

/-- the first k bits turned. -/
structure Flip (M : List Bool) (k : Nat) (L : List Bool) : Prop where
  len : L.length = M.length
  get : ∀ j, j < M.length → L.getD j false = (M.getD j false ^^ decide (j < k))
theorem Flip.start (M : List Bool) : Flip M 0 M := ⟨rfl, fun j _ => by simp⟩
theorem Flip.next {M L : List Bool} {k : Nat} (h : Flip M k L) (hk : k < M.length) : Flip M (k + 1) (tog L k) where
  len := by rw [tog_len, h.len]
  get j hj := by
    rw [tog_get _ _ _ (by rw [h.len]; exact hk), h.get j hj]
    by_cases e : k = j
    · subst e; simp
    · have : decide (j < k + 1) = decide (j < k) := by apply decide_eq_decide.2; omega
      rw [this, decide_eq_false e]; simp
theorem ones_bit (j : Nat) : (0xffffffff#32 : BitVec 32).getLsbD j = decide (j < 32) := by
  rw [show (0xffffffff#32 : BitVec 32) = BitVec.allOnes 32 by decide, BitVec.getLsbD_allOnes]
theorem Flip.div {M L : List Bool} (h : Flip M 32 L) : DivSt M 0xffffffff#32 0 L where
  len := h.len
  get j _ hj := by rw [h.get j hj, ones_bit, Nat.sub_zero]

/-- the row of bits behind i rounds of the division. -/
def DivAt (l : List UInt8) (i : Nat) (L : List Bool) : Prop :=
  DivSt (Crc.bitsOf l ++ List.replicate 32 false) (((Crc.bitsOf l ++ List.replicate 32 false).take i).foldl Crc.stb 0xffffffff#32) i L
theorem msg_len (l : List UInt8) : (Crc.bitsOf l ++ List.replicate 32 false).length = 8 * l.length + 32 := by
  rw [List.length_append, bitsOf_len, List.length_replicate]
theorem DivAt.start {l : List UInt8} {L : List Bool} (h : Flip (Crc.bitsOf l ++ List.replicate 32 false) 32 L) : DivAt l 0 L := h.div
theorem take_snocD {M : List Bool} {i : Nat} (h : i < M.length) : M.take (i + 1) = M.take i ++ [M.getD i false] := by
  rw [List.take_succ_eq_append_getElem h, List.getD_eq_getElem?_getD, List.getElem?_eq_getElem h]; rfl
theorem DivAt.off {l : List UInt8} {L : List Bool} {i : Nat} (h : DivAt l i L) (hi : i < 8 * l.length) (hb : L.getD i false = false) : DivAt l (i + 1) L := by
  have := DivSt.off h (by rw [msg_len]; omega) hb
  unfold DivAt
  rw [take_snocD (by rw [msg_len]; omega), List.foldl_append]
  exact this
theorem DivAt.on {l : List UInt8} {L : List Bool} {i : Nat} (h : DivAt l i L) (hi : i < 8 * l.length) (hb : L.getD i false = true) : DivAt l (i + 1) (togs L i powers) := by
  have := DivSt.on h (by rw [msg_len]; omega) hb
  unfold DivAt
  rw [take_snocD (by rw [msg_len]; omega), List.foldl_append]
  exact this
theorem DivAt.len {l : List UInt8} {L : List Bool} {i : Nat} (h : DivAt l i L) : L.length = 8 * l.length + 32 := by
  have := DivSt.len h
  rw [msg_len] at this
  exact this
theorem DivAt.fin {l : List UInt8} {L : List Bool} (h : DivAt l (8 * l.length) L) (k : Nat) (hk : k < 32) : (!(L.getD (8 * l.length + k) false)) = (Crc.crc l).getLsbD k := by
  refine div_end l L ?_ k hk
  unfold DivAt at h
  rwa [List.take_append_of_le_length (by rw [bitsOf_len]; exact Nat.le_refl _), List.take_of_length_le (by rw [bitsOf_len]; exact Nat.le_refl _)] at h
theorem togs_next (L : List Bool) (i k : Nat) (hk : k < 18) : togs L i (powers.take (k + 1)) = tog (togs L i (powers.take k)) (i + 32 - powers.getD k 0) := by
  have hl : k < powers.length := hk
  rw [List.take_succ_eq_append_getElem hl]
  unfold togs
  rw [List.foldl_append]
  rw [List.getD_eq_getElem?_getD, List.getElem?_eq_getElem hl]
  rfl
theorem bits_take (l : List UInt8) (i : Nat) (h : i < l.length) : Crc.bitsOf (l.take (i + 1)) = Crc.bitsOf (l.take i) ++ Crc.byteBits (l.getD i 0) := by
  rw [List.take_succ_eq_append_getElem h, List.getD_eq_getElem?_getD, List.getElem?_eq_getElem h]
  unfold Crc.bitsOf
  rw [List.flatMap_append]
  simp
theorem byteBits_len (x : UInt8) : (Crc.byteBits x).length = 8 := by simp [Crc.byteBits]
theorem byteBits_take (x : UInt8) (k : Nat) (h : k < 8) : (Crc.byteBits x).take (k + 1) = (Crc.byteBits x).take k ++ [x.toBitVec.getLsbD k] := by
  rw [List.take_succ_eq_append_getElem (by rw [byteBits_len]; exact h)]
  simp [Crc.byteBits]
theorem byteBits_all (x : UInt8) : (Crc.byteBits x).take 8 = Crc.byteBits x := List.take_of_length_le (by rw [byteBits_len]; exact Nat.le_refl _)
theorem byte_bit (x : UInt8) (k : Nat) : ((x.toNat / 2 ^ k % 2 : Nat) : Int) = bi (x.toBitVec.getLsbD k) := by
  have h : x.toBitVec.getLsbD k = x.toNat.testBit k := rfl
  rw [h, Nat.testBit_eq_decide_div_mod_eq]
  unfold bi
  by_cases e : x.toNat / 2 ^ k % 2 = 1
  · rw [decide_eq_true e, if_pos rfl, e]; rfl
  · rw [decide_eq_false e, if_neg (by simp), show x.toNat / 2 ^ k % 2 = 0 by omega]; rfl
/-- the sum's lower bits. -/
theorem low_next (s : BitVec 32) (k : Nat) : s.toNat % 2 ^ (k + 1) = s.toNat % 2 ^ k + (if s.getLsbD k then 2 ^ k else 0) := by
  have h : s.getLsbD k = s.toNat.testBit k := rfl
  rw [Nat.mod_pow_succ, h, Nat.testBit_eq_decide_div_mod_eq]
  rcases Nat.mod_two_eq_zero_or_one (s.toNat / 2 ^ k) with e | e <;> simp [e]
end Go.Proofs.YtdpjmkgjjhcgeaaDoor
