/- Frames, reckoned over lists of bytes: what a frame is, what is taken off one, a cut frame, a burst of turned bits. -/
import Derived.Test.YtafiokabnlmgpaaGreatDoorCrc
namespace Go.Proofs.YtafiokabnlmgpaaGreatDoor

def head (n : Nat) : List UInt8 := [UInt8.ofNat (n / 256), UInt8.ofNat n]
def sum4 (s : BitVec 32) : List UInt8 := [UInt8.ofNat s.toNat, UInt8.ofNat (s.toNat / 256), UInt8.ofNat (s.toNat / 65536), UInt8.ofNat (s.toNat / 16777216)]
def frameOf (l : List UInt8) : List UInt8 := head l.length ++ (sum4 (Crc.crc (head l.length ++ l)) ++ l)
def unfr (l : List UInt8) : List UInt8 × Nat × Nat :=
  if l.length < 6 then ([], 0, 30)
  else if 4096 < (l.getD 0 0).toNat * 256 + (l.getD 1 0).toNat then ([], 0, 31)
  else if l.length < 6 + ((l.getD 0 0).toNat * 256 + (l.getD 1 0).toNat) then ([], 0, 30)
  else if frameOf ((l.drop 6).take ((l.getD 0 0).toNat * 256 + (l.getD 1 0).toNat)) = l.take (6 + ((l.getD 0 0).toNat * 256 + (l.getD 1 0).toNat)) then
    ((l.drop 6).take ((l.getD 0 0).toNat * 256 + (l.getD 1 0).toNat), 6 + ((l.getD 0 0).toNat * 256 + (l.getD 1 0).toNat), 0)
  else ([], 0, 33)

theorem head_len (n : Nat) : (head n).length = 2 := rfl
theorem sum4_len (s : BitVec 32) : (sum4 s).length = 4 := rfl
theorem frameOf_len (l : List UInt8) : (frameOf l).length = 6 + l.length := by
  unfold frameOf
  rw [List.length_append, List.length_append, head_len, sum4_len]; omega
theorem head_val (n : Nat) (h : n ≤ 4096) : (UInt8.ofNat (n / 256)).toNat * 256 + (UInt8.ofNat n).toNat = n := by
  rw [UInt8.toNat_ofNat', UInt8.toNat_ofNat']; omega
theorem sum4_inj (a b : BitVec 32) (h : sum4 a = sum4 b) : a = b := by
  unfold sum4 at h
  simp only [List.cons.injEq, and_true] at h
  obtain ⟨h0, h1, h2, h3⟩ := h
  have h0 := congrArg UInt8.toNat h0
  have h1 := congrArg UInt8.toNat h1
  have h2 := congrArg UInt8.toNat h2
  have h3 := congrArg UInt8.toNat h3
  rw [UInt8.toNat_ofNat', UInt8.toNat_ofNat'] at h0 h1 h2 h3
  have := a.isLt
  have := b.isLt
  apply BitVec.eq_of_toNat_eq
  omega

/-- whatever stands where the frame of a body of n bytes has its sum and its body. -/
theorem unfr_any (n : Nat) (s m r : List UInt8) (hn : n ≤ 4096) (hs : s.length = 4) (hm : m.length = n) :
    unfr (head n ++ (s ++ (m ++ r))) = if sum4 (Crc.crc (head n ++ m)) = s then (m, 6 + n, 0) else ([], 0, 33) := by
  have hd : (head n ++ (s ++ (m ++ r))).drop 6 = m ++ r := by
    rw [← List.append_assoc, List.drop_append_of_le_length (by rw [List.length_append, head_len, hs]; omega), List.drop_of_length_le (by rw [List.length_append, head_len, hs]; omega), List.nil_append]
  have hl : (head n ++ (s ++ (m ++ r))).length = 6 + n + r.length := by
    rw [List.length_append, List.length_append, List.length_append, head_len, hs, hm]; omega
  have h0 : ((head n ++ (s ++ (m ++ r))).getD 0 0).toNat * 256 + ((head n ++ (s ++ (m ++ r))).getD 1 0).toNat = n := head_val n hn
  have ht : (head n ++ (s ++ (m ++ r))).take (6 + n) = head n ++ (s ++ m) := by
    rw [show head n ++ (s ++ (m ++ r)) = (head n ++ (s ++ m)) ++ r by simp only [List.append_assoc], List.take_append_of_le_length (by rw [List.length_append, List.length_append, head_len, hs, hm]; omega)]
    exact List.take_of_length_le (by rw [List.length_append, List.length_append, head_len, hs, hm]; omega)
  have hb : (m ++ r).take n = m := by
    rw [List.take_append_of_le_length (by omega)]
    exact List.take_of_length_le (by omega)
  unfold unfr
  rw [h0, hl, hd, ht, hb, if_neg (by omega), if_neg (by omega), if_neg (by omega)]
  unfold frameOf
  rw [hm]
  by_cases hq : sum4 (Crc.crc (head n ++ m)) = s
  · rw [if_pos hq, if_pos (by rw [hq])]
  · rw [if_neg hq, if_neg]
    intro e
    have e := List.append_cancel_left e
    exact hq ((List.append_inj e (by rw [sum4_len, hs])).1)

theorem unfr_frame (l r : List UInt8) (hl : l.length ≤ 4096) : unfr (frameOf l ++ r) = (l, 6 + l.length, 0) := by
  unfold frameOf
  rw [List.append_assoc, List.append_assoc, unfr_any l.length _ l r hl rfl rfl, if_pos rfl]

theorem unfr_cut (l : List UInt8) (hl : l.length ≤ 4096) (t : Nat) (ht : t < 6 + l.length) : unfr ((frameOf l).take t) = ([], 0, 30) := by
  have hlen : ((frameOf l).take t).length = t := by rw [List.length_take, frameOf_len]; omega
  by_cases h6 : t < 6
  · unfold unfr
    rw [hlen, if_pos h6]
  · have h0 : (((frameOf l).take t).getD 0 0).toNat * 256 + (((frameOf l).take t).getD 1 0).toNat = l.length := by
      rw [List.getD_eq_getElem?_getD, List.getD_eq_getElem?_getD, List.getElem?_take, List.getElem?_take, if_pos (by omega), if_pos (by omega)]
      exact head_val _ hl
    unfold unfr
    rw [h0, hlen, if_neg (by omega), if_neg (by omega), if_pos ht]

/-- a bit of a list of bytes. -/
def bit (l : List UInt8) (j : Nat) : Bool := (l.getD (j / 8) 0).toBitVec.getLsbD (j % 8)

theorem bitsOf_len (l : List UInt8) : (Crc.bitsOf l).length = 8 * l.length := by
  induction l with
  | nil => rfl
  | cons x t ih =>
    show (Crc.byteBits x ++ Crc.bitsOf t).length = _
    rw [List.length_append, ih]
    simp [Crc.byteBits]
    omega
theorem bitsOf_get (l : List UInt8) : ∀ j, j < 8 * l.length → (Crc.bitsOf l)[j]? = some (bit l j) := by
  induction l with
  | nil => intro j h; simp at h
  | cons x t ih =>
    intro j hj
    show (Crc.byteBits x ++ Crc.bitsOf t)[j]? = _
    by_cases h8 : j < 8
    · rw [List.getElem?_append_left (by simpa [Crc.byteBits] using h8)]
      have : j / 8 = 0 := by omega
      have : j % 8 = j := by omega
      simp [Crc.byteBits, bit, *]
    · rw [List.getElem?_append_right (by simp [Crc.byteBits]; omega)]
      have hlen : (Crc.byteBits x).length = 8 := by simp [Crc.byteBits]
      rw [hlen, ih (j - 8) (by rw [List.length_cons] at hj; omega)]
      unfold bit
      rw [show j / 8 = (j - 8) / 8 + 1 by omega, show (j - 8) % 8 = j % 8 by omega, List.getD_cons_succ]

/-- a burst of at most 32 turned bits changes the sum. -/
theorem crc_burst (h l m : List UInt8) (hm : m.length = l.length) (f k : Nat) (pat : Nat → Bool) (hk : k ≤ 32) (hf : f + k ≤ 8 * l.length)
    (hb : ∀ j, j < 8 * l.length → bit m j = (bit l j ^^ (decide (f ≤ j) && decide (j < f + k) && pat (j - f)))) (ht : ∃ i, i < k ∧ pat i = true) :
    Crc.crc (h ++ m) ≠ Crc.crc (h ++ l) := by
  intro e
  unfold Crc.crc at e
  rw [List.foldl_append, List.foldl_append, Crc.foldl_byt m, Crc.foldl_byt l] at e
  have e := congrArg (fun q => ~~~ q) e
  simp only [BitVec.not_not] at e
  generalize h.foldl Crc.byt 0xffffffff#32 = r at e
  have hx := Crc.foldl_xor (Crc.bitsOf m) (Crc.bitsOf l) r r (by rw [bitsOf_len, bitsOf_len, hm])
  rw [e, BitVec.xor_self, BitVec.xor_self] at hx
  have hz : List.zipWith (fun x y => x ^^ y) (Crc.bitsOf m) (Crc.bitsOf l) = List.replicate f false ++ (((List.range k).map pat) ++ List.replicate (8 * l.length - (f + k)) false) := by
    apply List.ext_getElem?
    intro j
    by_cases hj : j < 8 * l.length
    · rw [List.getElem?_zipWith, bitsOf_get m j (by omega), bitsOf_get l j hj, hb j hj]
      by_cases h1 : j < f
      · rw [List.getElem?_append_left (by simpa using h1)]
        simp [h1, show ¬ f ≤ j by omega]
      · rw [List.getElem?_append_right (by simp; omega), List.length_replicate]
        by_cases h2 : j < f + k
        · rw [List.getElem?_append_left (by simp; omega)]
          simp [show f ≤ j by omega, h2, show j - f < k by omega]
          cases bit l j <;> cases pat (j - f) <;> rfl
        · rw [List.getElem?_append_right (by simp; omega)]
          simp [h2, show j - f - k < 8 * l.length - (f + k) by omega]
    · rw [List.getElem?_eq_none (by rw [List.length_zipWith, bitsOf_len, bitsOf_len, hm]; omega), List.getElem?_eq_none (by simp; omega)]
  rw [hz] at hx
  refine Crc.burst f _ ((List.range k).map pat) (by simpa using hk) ?_ hx.symm
  obtain ⟨i, hi, hp⟩ := ht
  exact List.mem_map.2 ⟨i, List.mem_range.2 hi, hp⟩

/-- one bit turned. -/
def turn (l : List UInt8) (j : Nat) : List UInt8 := l.set (j / 8) (l.getD (j / 8) 0 ^^^ UInt8.ofNat (2 ^ (j % 8)))
theorem turn_len (l : List UInt8) (j : Nat) : (turn l j).length = l.length := by simp [turn]
theorem turn_bit (l : List UInt8) (j i : Nat) (hj : j < 8 * l.length) : bit (turn l j) i = (bit l i ^^ decide (i = j)) := by
  have hp : ∀ a : Nat, a < 8 → ∀ b : Nat, b < 8 → (UInt8.ofNat (2 ^ a)).toBitVec.getLsbD b = decide (b = a) := by decide
  unfold bit turn
  by_cases h : i / 8 = j / 8
  · rw [h, List.getD_eq_getElem?_getD, List.getElem?_set_self (by omega)]
    simp only [Option.getD_some, UInt8.toBitVec_xor, BitVec.getLsbD_xor]
    rw [hp _ (Nat.mod_lt _ (by decide)) _ (Nat.mod_lt _ (by decide))]
    congr 1
    apply decide_eq_decide.2
    omega
  · rw [List.getD_eq_getElem?_getD, List.getElem?_set_ne (by omega), ← List.getD_eq_getElem?_getD]
    simp [show ¬ i = j by rintro rfl; exact h rfl]
end Go.Proofs.YtafiokabnlmgpaaGreatDoor
