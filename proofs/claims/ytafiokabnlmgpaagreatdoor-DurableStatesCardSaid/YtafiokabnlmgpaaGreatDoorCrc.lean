/- Plain mathematics of the check sum CRC-32C: one step for a bit, four steps as a table of half bytes does them, bits one behind the other, and what a change within 32 following bits does. No condition; nothing of the program stands here. -/
import Init
namespace Go.Proofs.YtafiokabnlmgpaaGreatDoor
namespace Crc

def poly : BitVec 32 := 0x82f63b78#32
def stp (r : BitVec 32) : BitVec 32 := (r >>> 1) ^^^ (if r.getLsbD 0 then poly else 0#32)

theorem stp_xor (a b : BitVec 32) : stp (a ^^^ b) = stp a ^^^ stp b := by
  unfold stp
  rw [BitVec.ushiftRight_xor_distrib, BitVec.getLsbD_xor]
  cases ha : a.getLsbD 0 <;> cases hb : b.getLsbD 0 <;> simp
  · ac_rfl
  · ac_rfl
  · rw [show (a >>> 1 ^^^ poly ^^^ (b >>> 1 ^^^ poly)) = (a >>> 1 ^^^ b >>> 1) ^^^ (poly ^^^ poly) by ac_rfl, BitVec.xor_self, BitVec.xor_zero]

theorem stp_zero : stp 0#32 = 0#32 := by decide

theorem stp_inj (a : BitVec 32) (h : stp a = 0#32) : a = 0#32 := by
  unfold stp at h
  by_cases h0 : a.getLsbD 0 = true
  · rw [if_pos h0] at h
    have := congrArg (fun x : BitVec 32 => x.getLsbD 31) h
    simp [poly] at this
  · rw [if_neg h0, BitVec.xor_zero] at h
    apply BitVec.eq_of_getLsbD_eq
    intro i hi
    rcases i with _ | i
    · simpa using h0
    · have := congrArg (fun x : BitVec 32 => x.getLsbD i) h
      simpa [BitVec.getLsbD_ushiftRight, Nat.add_comm] using this

def stps : Nat → BitVec 32 → BitVec 32
  | 0, r => r
  | n + 1, r => stps n (stp r)

theorem stps_xor (n : Nat) : ∀ a b, stps n (a ^^^ b) = stps n a ^^^ stps n b := by
  induction n with
  | zero => intro a b; rfl
  | succ n ih => intro a b; simp only [stps, stp_xor, ih]

theorem stps_inj (n : Nat) : ∀ a, stps n a = 0#32 → a = 0#32 := by
  induction n with
  | zero => intro a h; exact h
  | succ n ih => intro a h; exact stp_inj a (ih _ h)

/-- the table of half bytes. -/
def tab : List (BitVec 32) := [0x00000000#32, 0x105ec76f#32, 0x20bd8ede#32, 0x30e349b1#32, 0x417b1dbc#32, 0x5125dad3#32, 0x61c69362#32, 0x7198540d#32, 0x82f63b78#32, 0x92a8fc17#32, 0xa24bb5a6#32, 0xb21572c9#32, 0xc38d26c4#32, 0xd3d3e1ab#32, 0xe330a81a#32, 0xf36e6f75#32]

theorem stp_even (r : BitVec 32) (h : r.getLsbD 0 = false) : stp r = r >>> 1 := by
  unfold stp; rw [h]; simp

theorem low4 : ∀ v : BitVec 4, stps 4 (v.setWidth 32) = tab.getD v.toNat 0#32 := by decide

theorem stps4 (s : BitVec 32) : stps 4 s = (s >>> 4) ^^^ tab.getD (s.toNat % 16) 0#32 := by
  have hs : s = ((s >>> 4) <<< 4) ^^^ ((s.setWidth 4).setWidth 32) := by
    apply BitVec.eq_of_getLsbD_eq
    intro i hi
    by_cases h : i < 4
    · simp [h, hi]
    · simp [h, hi]
      rw [show 4 + (i - 4) = i by omega]
      simp [hi]
  have hhi : stps 4 ((s >>> 4) <<< 4) = s >>> 4 := by
    have e : ∀ k : Nat, k < 4 → ∀ x : BitVec 32, ((x >>> 4) <<< (k + 1)).getLsbD 0 = false := by
      intro k _ x; simp
    have st : ∀ k : Nat, k < 4 → stp ((s >>> 4) <<< (k + 1)) = (s >>> 4) <<< k := by
      intro k hk
      rw [stp_even _ (e k hk s)]
      apply BitVec.eq_of_getLsbD_eq
      intro i hi
      simp only [BitVec.getLsbD_ushiftRight, BitVec.getLsbD_shiftLeft]
      by_cases h : i < k
      · simp [h, show 1 + i < k + 1 by omega]
      · by_cases h31 : i = 31
        · subst h31
          simp [h]
          exact BitVec.getLsbD_of_ge _ _ (by omega)
        · have h1 : 1 + i < 32 := by omega
          have h2 : ¬ 1 + i < k + 1 := by omega
          simp [h, hi, h1, h2]
          rw [show 1 + i - (k + 1) = i - k by omega]
    show stp (stp (stp (stp ((s >>> 4) <<< 4)))) = _
    rw [st 3 (by omega), st 2 (by omega), st 1 (by omega), st 0 (by omega)]
    simp
  conv => lhs; rw [hs]
  rw [stps_xor, hhi, low4, BitVec.toNat_setWidth]

/-- one byte. -/
def byt (r : BitVec 32) (x : UInt8) : BitVec 32 := stps 8 (r ^^^ x.toBitVec.setWidth 32)
def crc (l : List UInt8) : BitVec 32 := ~~~ (l.foldl byt 0xffffffff#32)

theorem stps_add (m n : Nat) : ∀ r, stps (m + n) r = stps n (stps m r) := by
  induction m with
  | zero => intro r; simp [stps]
  | succ m ih => intro r; rw [show m + 1 + n = (m + n) + 1 by omega]; simp only [stps, ih]

/-- two half bytes, as the program does them. -/
def half (s : BitVec 32) : BitVec 32 := (s >>> 4) ^^^ tab.getD (s.toNat % 16) 0#32
theorem byt_half (r : BitVec 32) (x : UInt8) : byt r x = half (half (r ^^^ x.toBitVec.setWidth 32)) := by
  unfold byt half
  rw [show ∀ q : BitVec 32, stps 8 q = stps 4 (stps 4 q) from stps_add 4 4, stps4, stps4]

theorem example_sum : crc [49, 50, 51, 52, 53, 54, 55, 56, 57] = 0xe3069283#32 := by decide +kernel

/-- one bit. -/
def stb (r : BitVec 32) (b : Bool) : BitVec 32 := stp (r ^^^ (if b then 1#32 else 0#32))
def bitl : Nat → BitVec 32 → List Bool
  | 0, _ => []
  | n + 1, v => v.getLsbD 0 :: bitl n (v >>> 1)

theorem stb_split (r v : BitVec 32) : stp (r ^^^ v) = stb r (v.getLsbD 0) ^^^ (v >>> 1) := by
  unfold stb
  rw [stp_xor, stp_xor, BitVec.xor_assoc]
  congr 1
  cases h : v.getLsbD 0
  · rw [stp_even v h]; simp [stp_zero]
  · unfold stp
    rw [h]
    have : (1#32).getLsbD 0 = true := by decide
    simp [BitVec.xor_comm, show (1#32 >>> 1) = 0#32 by decide]

theorem stps_bits (n : Nat) : ∀ (r v : BitVec 32), v >>> n = 0#32 → stps n (r ^^^ v) = (bitl n v).foldl stb r := by
  induction n with
  | zero => intro r v h; have : v = 0#32 := by simpa using h
            subst this; simp [stps, bitl]
  | succ n ih =>
    intro r v h
    show stps n (stp (r ^^^ v)) = _
    rw [stb_split, ih _ _ (by rw [← h, ← BitVec.shiftRight_add, Nat.add_comm])]
    rfl

def byteBits (x : UInt8) : List Bool := (List.range 8).map fun k => x.toBitVec.getLsbD k
def bitsOf (l : List UInt8) : List Bool := l.flatMap byteBits

theorem bitl_byte (x : UInt8) : bitl 8 (x.toBitVec.setWidth 32) = byteBits x := by
  simp [bitl, byteBits, List.range_succ]

theorem byt_bits (r : BitVec 32) (x : UInt8) : byt r x = (byteBits x).foldl stb r := by
  unfold byt
  rw [stps_bits, bitl_byte]
  apply BitVec.eq_of_getLsbD_eq
  intro i hi
  simp

theorem foldl_byt (l : List UInt8) : ∀ r, l.foldl byt r = (bitsOf l).foldl stb r := by
  induction l with
  | nil => intro r; rfl
  | cons x t ih => intro r; simp only [List.foldl_cons, bitsOf, List.flatMap_cons, List.foldl_append, byt_bits]; exact ih _

/-- what two rows of bits part in. -/
theorem stb_xor (a b : BitVec 32) (x y : Bool) : stb a x ^^^ stb b y = stb (a ^^^ b) (x ^^ y) := by
  unfold stb
  rw [← stp_xor]
  congr 1
  rw [show ∀ p q : BitVec 32, (a ^^^ p) ^^^ (b ^^^ q) = (a ^^^ b) ^^^ (p ^^^ q) from fun p q => by ac_rfl]
  cases x <;> cases y <;> simp

theorem foldl_xor : ∀ (p q : List Bool) (a b : BitVec 32), p.length = q.length →
    p.foldl stb a ^^^ q.foldl stb b = (List.zipWith (fun x y => x ^^ y) p q).foldl stb (a ^^^ b)
  | [], [], a, b, _ => rfl
  | x :: p, y :: q, a, b, h => by
    simp only [List.foldl_cons, List.zipWith_cons_cons]
    rw [foldl_xor p q _ _ (by simpa using h), stb_xor]

theorem stb_false (r : BitVec 32) : stb r false = stp r := by simp [stb]
theorem foldl_false (n : Nat) : ∀ r, (List.replicate n false).foldl stb r = stps n r := by
  induction n with
  | zero => intro r; rfl
  | succ n ih => intro r; simp only [List.replicate_succ, List.foldl_cons, stb_false, ih]; rfl

/-- bits as a number, the first one lowest. -/
def val : List Bool → BitVec 32
  | [] => 0#32
  | b :: t => (val t <<< 1) ^^^ (if b then 1#32 else 0#32)

theorem val_bit (l : List Bool) : ∀ i, i < 32 → (val l).getLsbD i = (l[i]?).getD false := by
  induction l with
  | nil => intro i _; simp [val]
  | cons b t ih =>
    intro i hi
    rcases i with _ | i
    · cases b <;> simp [val]
    · have := ih i (by omega)
      have hi' : i < 32 := by omega
      simp only [BitVec.getLsbD_eq_getElem hi'] at this
      cases b <;> simp [val, hi] <;> exact this

theorem bitl_val (l : List Bool) (h : l.length ≤ 32) : bitl l.length (val l) = l := by
  have key : ∀ (n : Nat) (v : BitVec 32) (l : List Bool), l.length = n → n ≤ 32 → (∀ i, i < n → v.getLsbD i = (l[i]?).getD false) → bitl n v = l := by
    intro n
    induction n with
    | zero => intro v l hl _ _; rw [List.length_eq_zero_iff] at hl; subst hl; rfl
    | succ n ih =>
      intro v l hl hn hb
      rcases l with _ | ⟨b, t⟩
      · simp at hl
      · have h0 := hb 0 (by omega)
        simp at h0
        show v.getLsbD 0 :: bitl n (v >>> 1) = b :: t
        rw [ih (v >>> 1) t (by simpa using hl) (by omega) (fun i hi => by
          have := hb (i + 1) (by omega)
          simpa [Nat.add_comm] using this)]
        simp [h0]
  exact key _ _ _ rfl h (fun i hi => val_bit l i (by omega))

theorem val_shift (l : List Bool) : val l >>> l.length = 0#32 := by
  apply BitVec.eq_of_getLsbD_eq
  intro i hi
  simp only [BitVec.getLsbD_ushiftRight, BitVec.getLsbD_zero]
  by_cases h32 : l.length + i < 32
  · rw [val_bit _ _ h32]; simp
  · exact BitVec.getLsbD_of_ge _ _ (by omega)

/-- A change in bits that all lie within 32 following ones parts the sums. -/
theorem burst (m n : Nat) (pat : List Bool) (hp : pat.length ≤ 32) (ht : true ∈ pat) :
    (List.replicate m false ++ (pat ++ List.replicate n false)).foldl stb 0#32 ≠ 0#32 := by
  rw [List.foldl_append, List.foldl_append, foldl_false, foldl_false]
  have h0 : stps m 0#32 = 0#32 := by
    induction m with
    | zero => rfl
    | succ m ih => simp only [stps, stp_zero, ih]
  rw [h0]
  intro h
  have h1 := stps_inj n _ h
  have h2 := stps_bits pat.length 0#32 (val pat) (val_shift pat)
  rw [bitl_val pat hp, h1] at h2
  have h3 := stps_inj _ _ h2
  rw [BitVec.zero_xor] at h3
  obtain ⟨i, hi, hti⟩ := List.getElem_of_mem ht
  have h4 := val_bit pat i (by omega)
  rw [h3, List.getElem?_eq_getElem hi, hti] at h4
  simp at h4

end Crc
end Go.Proofs.YtafiokabnlmgpaaGreatDoor
