/- The long division by which the document reckons the check sum, over lists of bits: it comes to Crc.crc. Rows of bits as numbers, and what the document's check sum keeps from round to round. The document's check sum, coefficient by coefficient, comes to Crc.crc. Condition: the row of bytes is short. The document's Frame makes the frame, or refuses. Condition: lengths. The document's Unframe takes the body off a frame, or refuses. Condition: lengths. -/
import Derived.Test.YtokonhcphhpogaaDoorFram
import Derived.Test.YtokonhcphhpogaaDoorFrame2
import Derived.Deep.DeepCutAuto
import Derived.RegionTactic
import Derived.Test.YtokonhcphhpogaaDoorFrame3
namespace Go.Proofs.YtokonhcphhpogaaDoor

def powers : List Nat := [32, 28, 27, 26, 25, 23, 22, 20, 19, 18, 14, 13, 11, 10, 9, 8, 6, 0]
def tog (l : List Bool) (p : Nat) : List Bool := l.set p (!(l.getD p false))
def togs (l : List Bool) (i : Nat) (ps : List Nat) : List Bool := ps.foldl (fun l p => tog l (i + 32 - p)) l

theorem tog_len (l : List Bool) (p : Nat) : (tog l p).length = l.length := by simp [tog]
theorem togs_len (i : Nat) (ps : List Nat) : ∀ l, (togs l i ps).length = l.length := by
  induction ps with
  | nil => intro l; rfl
  | cons p t ih => intro l; show (togs (tog l _) i t).length = _; rw [ih, tog_len]
theorem tog_get (l : List Bool) (p j : Nat) (hp : p < l.length) : (tog l p).getD j false = (l.getD j false ^^ decide (p = j)) := by
  unfold tog
  by_cases h : p = j
  · subst h
    rw [List.getD_eq_getElem?_getD, List.getElem?_set_self hp]
    simp
  · rw [List.getD_eq_getElem?_getD, List.getElem?_set_ne h, ← List.getD_eq_getElem?_getD]
    simp [h]
theorem togs_get (i j : Nat) (ps : List Nat) : ∀ l : List Bool, i + 32 < l.length → ps.Nodup → (∀ p ∈ ps, p ≤ 32) →
    (togs l i ps).getD j false = (l.getD j false ^^ decide (∃ p ∈ ps, i + 32 - p = j)) := by
  induction ps with
  | nil => intro l _ _ _; simp [togs]
  | cons p t ih =>
    intro l hl hn h32
    have hp := h32 p (List.mem_cons_self ..)
    show (togs (tog l (i + 32 - p)) i t).getD j false = _
    rw [ih _ (by rw [tog_len]; exact hl) (List.nodup_cons.1 hn).2 (fun q hq => h32 q (List.mem_cons_of_mem _ hq)), tog_get _ _ _ (by omega)]
    by_cases h1 : i + 32 - p = j
    · have h2 : ¬ ∃ q ∈ t, i + 32 - q = j := by
        rintro ⟨q, hq, e⟩
        have := h32 q (List.mem_cons_of_mem _ hq)
        have : q = p := by omega
        subst this
        exact (List.nodup_cons.1 hn).1 hq
      have h3 : ∃ q ∈ p :: t, i + 32 - q = j := ⟨p, List.mem_cons_self .., h1⟩
      rw [decide_eq_true h1, decide_eq_false h2, decide_eq_true h3]; simp
    · have h3 : (∃ q ∈ p :: t, i + 32 - q = j) ↔ ∃ q ∈ t, i + 32 - q = j := by
        constructor
        · rintro ⟨q, hq, e⟩
          rcases List.mem_cons.1 hq with rfl | hq
          · exact absurd e h1
          · exact ⟨q, hq, e⟩
        · rintro ⟨q, hq, e⟩; exact ⟨q, List.mem_cons_of_mem _ hq, e⟩
      rw [decide_eq_false h1, show decide (∃ q ∈ p :: t, i + 32 - q = j) = decide (∃ q ∈ t, i + 32 - q = j) from decide_eq_decide.2 h3]; simp

theorem powers_bit (d : Nat) (h0 : 0 < d) : decide (∃ p ∈ powers, 32 - p = d) = Crc.poly.getLsbD (d - 1) := by
  by_cases h : d ≤ 32
  · have key : ∀ d : Nat, d < 33 → 0 < d → decide (∃ p ∈ powers, 32 - p = d) = Crc.poly.getLsbD (d - 1) := by decide +kernel
    exact key d (by omega) h0
  · rw [decide_eq_false, BitVec.getLsbD_of_ge _ _ (by omega)]
    rintro ⟨p, _, e⟩
    omega

/-- the row of bits behind i rounds: from place i on it is the message, turned by the register. -/
structure DivSt (M : List Bool) (r : BitVec 32) (i : Nat) (L : List Bool) : Prop where
  len : L.length = M.length
  get : ∀ j, i ≤ j → j < M.length → L.getD j false = (M.getD j false ^^ r.getLsbD (j - i))

theorem stb_get (r : BitVec 32) (b : Bool) (k : Nat) : (Crc.stb r b).getLsbD k = (r.getLsbD (k + 1) ^^ ((r.getLsbD 0 ^^ b) && Crc.poly.getLsbD k)) := by
  unfold Crc.stb Crc.stp
  rw [BitVec.getLsbD_xor, BitVec.getLsbD_ushiftRight, BitVec.getLsbD_xor]
  have h1 : (if b then 1#32 else 0#32).getLsbD (1 + k) = false := by
    cases b
    · simp
    · simp [BitVec.getLsbD_one]
  have h0 : (r ^^^ (if b then 1#32 else 0#32)).getLsbD 0 = (r.getLsbD 0 ^^ b) := by
    rw [BitVec.getLsbD_xor]
    cases b <;> simp
  rw [h1, h0, Nat.add_comm 1 k]
  cases (r.getLsbD 0 ^^ b) <;> simp

theorem DivSt.off {M L : List Bool} {r : BitVec 32} {i : Nat} (h : DivSt M r i L) (hi : i < M.length) (hb : L.getD i false = false) : DivSt M (Crc.stb r (M.getD i false)) (i + 1) L where
  len := h.len
  get j h1 h2 := by
    have h0 := h.get i (Nat.le_refl _) hi
    rw [hb, Nat.sub_self] at h0
    rw [h.get j (by omega) h2, stb_get, show j - (i + 1) + 1 = j - i by omega, Bool.xor_comm (r.getLsbD 0), ← h0]
    simp
theorem DivSt.on {M L : List Bool} {r : BitVec 32} {i : Nat} (h : DivSt M r i L) (hi : i + 32 < M.length) (hb : L.getD i false = true) : DivSt M (Crc.stb r (M.getD i false)) (i + 1) (togs L i powers) where
  len := by rw [togs_len, h.len]
  get j h1 h2 := by
    have h0 := h.get i (Nat.le_refl _) (by omega)
    rw [hb, Nat.sub_self] at h0
    have hp := powers_bit (j - i) (by omega)
    have he : decide (∃ p ∈ powers, i + 32 - p = j) = decide (∃ p ∈ powers, 32 - p = j - i) := by
      apply decide_eq_decide.2
      have h32 : ∀ p ∈ powers, p ≤ 32 := by decide
      constructor
      · rintro ⟨p, hp, e⟩; have := h32 p hp; exact ⟨p, hp, by omega⟩
      · rintro ⟨p, hp, e⟩; have := h32 p hp; exact ⟨p, hp, by omega⟩
    rw [togs_get i j powers L (by rw [h.len]; exact hi) (by decide) (by decide), he, hp, h.get j (by omega) h2, stb_get, show j - (i + 1) + 1 = j - i by omega, show j - (i + 1) = j - i - 1 by omega, Bool.xor_comm (r.getLsbD 0), ← h0]
    simp

/-- what stands behind the message at the end. -/
theorem div_end (l : List UInt8) (L : List Bool) (h : DivSt (Crc.bitsOf l ++ List.replicate 32 false) ((Crc.bitsOf l).foldl Crc.stb 0xffffffff#32) (8 * l.length) L) (k : Nat) (hk : k < 32) :
    (!(L.getD (8 * l.length + k) false)) = (Crc.crc l).getLsbD k := by
  have hg := h.get (8 * l.length + k) (by omega) (by rw [List.length_append, bitsOf_len, List.length_replicate]; omega)
  rw [hg, List.getD_eq_getElem?_getD, List.getElem?_append_right (by rw [bitsOf_len]; omega), bitsOf_len, show 8 * l.length + k - 8 * l.length = k by omega]
  unfold Crc.crc
  rw [Crc.foldl_byt, BitVec.getLsbD_not]
  have hz : ((List.replicate 32 false)[k]?).getD false = false := by rw [List.getElem?_replicate, if_pos hk]; rfl
  rw [hz, Bool.false_xor, decide_eq_true hk, Bool.true_and]
end Go.Proofs.YtokonhcphhpogaaDoor

namespace Go.Proofs.YtokonhcphhpogaaDoor

def bi (b : Bool) : Int := if b then 1 else 0
def ib (L : List Bool) : List Value := L.map fun b => .int .i64 (bi b)
theorem ib_length (L : List Bool) : (ib L).length = L.length := by simp [ib]
theorem ib_append (L M : List Bool) : ib (L ++ M) = ib L ++ ib M := by simp [ib]
theorem ib_get (L : List Bool) (k : Nat) (h : k < L.length) : (ib L)[k]? = some (.int .i64 (bi (L.getD k false))) := by
  simp [ib, h, List.getD_eq_getElem?_getD]
theorem ib_set (L : List Bool) (k : Nat) (b : Bool) : (ib L).set k (.int .i64 (bi b)) = ib (L.set k b) := by
  unfold ib
  rw [List.map_set]
theorem ib_one (L : List Bool) : ∀ u ∈ ib L, u.oneCell' = true := by
  intro u hu
  simp only [ib, List.mem_map] at hu
  obtain ⟨x, _, rfl⟩ := hu
  rfl
theorem bi_not (b : Bool) : 1 - bi b = bi (!b) := by cases b <;> rfl

/-- the first k bits turned. -/
structure Flip (M : List Bool) (k : Nat) (L : List Bool) : Prop where
  len : L.length = M.length
  get : ∀ j, j < M.length → L.getD j false = (M.getD j false ^^ decide (j < k))
theorem Flip.start (M : List Bool) : Flip M 0 M := ⟨rfl, fun j _ => by simp⟩
theorem Flip.next {M L : List Bool} {k : Nat} (h : Flip M k L) (hk : k < M.length) : Flip M (k + 1) (tog L k) where
  len := by rw [tog_len, h.len]
  get j hj := by
    rw [tog_get _ _ _ (by rw [h.len]; exact hk), h.get j hj]
    by_cases e : k = j
    · subst e; simp
    · have : decide (j < k + 1) = decide (j < k) := by apply decide_eq_decide.2; omega
      rw [this, decide_eq_false e]; simp
theorem ones_bit (j : Nat) : (0xffffffff#32 : BitVec 32).getLsbD j = decide (j < 32) := by
  rw [show (0xffffffff#32 : BitVec 32) = BitVec.allOnes 32 by decide, BitVec.getLsbD_allOnes]
theorem Flip.div {M L : List Bool} (h : Flip M 32 L) : DivSt M 0xffffffff#32 0 L where
  len := h.len
  get j _ hj := by rw [h.get j hj, ones_bit, Nat.sub_zero]

/-- the row of bits behind i rounds of the division. -/
def DivAt (l : List UInt8) (i : Nat) (L : List Bool) : Prop :=
  DivSt (Crc.bitsOf l ++ List.replicate 32 false) (((Crc.bitsOf l ++ List.replicate 32 false).take i).foldl Crc.stb 0xffffffff#32) i L
theorem msg_len (l : List UInt8) : (Crc.bitsOf l ++ List.replicate 32 false).length = 8 * l.length + 32 := by
  rw [List.length_append, bitsOf_len, List.length_replicate]
theorem DivAt.start {l : List UInt8} {L : List Bool} (h : Flip (Crc.bitsOf l ++ List.replicate 32 false) 32 L) : DivAt l 0 L := h.div
theorem take_snocD {M : List Bool} {i : Nat} (h : i < M.length) : M.take (i + 1) = M.take i ++ [M.getD i false] := by
  rw [List.take_succ_eq_append_getElem h, List.getD_eq_getElem?_getD, List.getElem?_eq_getElem h]; rfl
theorem DivAt.off {l : List UInt8} {L : List Bool} {i : Nat} (h : DivAt l i L) (hi : i < 8 * l.length) (hb : L.getD i false = false) : DivAt l (i + 1) L := by
  have := DivSt.off h (by rw [msg_len]; omega) hb
  unfold DivAt
  rw [take_snocD (by rw [msg_len]; omega), List.foldl_append]
  exact this
theorem DivAt.on {l : List UInt8} {L : List Bool} {i : Nat} (h : DivAt l i L) (hi : i < 8 * l.length) (hb : L.getD i false = true) : DivAt l (i + 1) (togs L i powers) := by
  have := DivSt.on h (by rw [msg_len]; omega) hb
  unfold DivAt
  rw [take_snocD (by rw [msg_len]; omega), List.foldl_append]
  exact this
theorem DivAt.len {l : List UInt8} {L : List Bool} {i : Nat} (h : DivAt l i L) : L.length = 8 * l.length + 32 := by
  have := DivSt.len h
  rw [msg_len] at this
  exact this
theorem DivAt.fin {l : List UInt8} {L : List Bool} (h : DivAt l (8 * l.length) L) (k : Nat) (hk : k < 32) : (!(L.getD (8 * l.length + k) false)) = (Crc.crc l).getLsbD k := by
  refine div_end l L ?_ k hk
  unfold DivAt at h
  rwa [List.take_append_of_le_length (by rw [bitsOf_len]; exact Nat.le_refl _), List.take_of_length_le (by rw [bitsOf_len]; exact Nat.le_refl _)] at h
theorem togs_next (L : List Bool) (i k : Nat) (hk : k < 18) : togs L i (powers.take (k + 1)) = tog (togs L i (powers.take k)) (i + 32 - powers.getD k 0) := by
  have hl : k < powers.length := hk
  rw [List.take_succ_eq_append_getElem hl]
  unfold togs
  rw [List.foldl_append]
  rw [List.getD_eq_getElem?_getD, List.getElem?_eq_getElem hl]
  rfl
theorem bits_take (l : List UInt8) (i : Nat) (h : i < l.length) : Crc.bitsOf (l.take (i + 1)) = Crc.bitsOf (l.take i) ++ Crc.byteBits (l.getD i 0) := by
  rw [List.take_succ_eq_append_getElem h, List.getD_eq_getElem?_getD, List.getElem?_eq_getElem h]
  unfold Crc.bitsOf
  rw [List.flatMap_append]
  simp
theorem byteBits_len (x : UInt8) : (Crc.byteBits x).length = 8 := by simp [Crc.byteBits]
theorem byteBits_take (x : UInt8) (k : Nat) (h : k < 8) : (Crc.byteBits x).take (k + 1) = (Crc.byteBits x).take k ++ [x.toBitVec.getLsbD k] := by
  rw [List.take_succ_eq_append_getElem (by rw [byteBits_len]; exact h)]
  simp [Crc.byteBits]
theorem byteBits_all (x : UInt8) : (Crc.byteBits x).take 8 = Crc.byteBits x := List.take_of_length_le (by rw [byteBits_len]; exact Nat.le_refl _)
theorem byte_bit (x : UInt8) (k : Nat) : ((x.toNat / 2 ^ k % 2 : Nat) : Int) = bi (x.toBitVec.getLsbD k) := by
  have h : x.toBitVec.getLsbD k = x.toNat.testBit k := rfl
  rw [h, Nat.testBit_eq_decide_div_mod_eq]
  unfold bi
  by_cases e : x.toNat / 2 ^ k % 2 = 1
  · rw [decide_eq_true e, if_pos rfl, e]; rfl
  · rw [decide_eq_false e, if_neg (by simp), show x.toNat / 2 ^ k % 2 = 0 by omega]; rfl
/-- the sum's lower bits. -/
theorem low_next (s : BitVec 32) (k : Nat) : s.toNat % 2 ^ (k + 1) = s.toNat % 2 ^ k + (if s.getLsbD k then 2 ^ k else 0) := by
  have h : s.getLsbD k = s.toNat.testBit k := rfl
  rw [Nat.mod_pow_succ, h, Nat.testBit_eq_decide_div_mod_eq]
  rcases Nat.mod_two_eq_zero_or_one (s.toNat / 2 ^ k) with e | e <;> simp [e]
end Go.Proofs.YtokonhcphhpogaaDoor

namespace Go.Proofs.YtokonhcphhpogaaDoor
open Go.RowKit

theorem intInfo : (Tryd.prog.info? 3).map (fun i => (i.zero, i.size, i.bytes)) = some (some (.int .i64 0), 1, 8) := by kernel_rfl
theorem i64_and_one (m : Nat) (hm : m < 256) : bits .and .i64 ((m : Nat) : Int) 1 = ((m % 2 : Nat) : Int) := by
  show IntKind.i64.wrap (((BitVec.ofInt 64 (m : Int) &&& BitVec.ofInt 64 1).toNat : Nat) : Int) = _
  have h : (BitVec.ofInt 64 (m : Int) &&& BitVec.ofInt 64 1).toNat = m % 2 := by
    rw [BitVec.toNat_and, BitVec.ofInt_natCast, BitVec.toNat_ofNat, show (BitVec.ofInt 64 1).toNat = 1 by decide, Nat.mod_eq_of_lt (by omega), Nat.and_one_is_mod]
  rw [h]
  exact IntWalk.i64_in _ (by omega)
theorem wrap64_bit (n : Int) (h : -9223372036854775808 ≤ n ∧ n ≤ 9223372036854775807) : wrap64 n = n := by
  unfold wrap64
  omega
theorem and_bit (x : UInt8) (k : Nat) : bits .and .i64 (wrap64 ((x.toNat : Int) / 2 ^ k)) 1 = bi (x.toBitVec.getLsbD k) := by
  have hd : x.toNat / 2 ^ k ≤ x.toNat := Nat.div_le_self _ _
  have hx := x.toNat_lt
  rw [show ((x.toNat : Int) / 2 ^ k) = ((x.toNat / 2 ^ k : Nat) : Int) by rw [Int.natCast_ediv]; simp, ← byte_bit]
  generalize x.toNat / 2 ^ k = m at *
  rw [wrap64_bit _ (by omega), i64_and_one _ (by omega)]
theorem ib_cell {w : World} {base n : Nat} {v : Value} {L : List Bool} (h : w.ownsRow base 3 1 v n (ib L)) (hp : 0 < n) (hn : L.length = n) :
    ∃ g c, v = .slice (some ⟨g, 0, none⟩) n c ∧ base ≤ g ∧ n ≤ c ∧ (∀ k, k < n → w.cell? ⟨g, k, none⟩ = some (.int .i64 (bi (L.getD k false)))) ∧ ∀ k, w.frozen? ⟨g, k, none⟩ = false := by
  rcases h.2 with ⟨hv, hx⟩ | ⟨g, cap, cur, hv, hb, hg, hnc, hcm, hcs, htake⟩
  · omega
  · subst hv
    refine ⟨g, cap, rfl, hb, hnc, fun k hk => ?_, fun k => h.frozenAt k⟩
    rw [h.cellAt k (by omega), ib_get L k (by omega)]
theorem ib_store {w : World} {base g c n : Nat} {L : List Bool} (h : w.ownsRow base 3 1 (.slice (some ⟨g, 0, none⟩) n c) n (ib L)) (k : Nat) :
    (w.setCell ⟨g, k, none⟩ (.int .i64 (bi (!(L.getD k false))))).ownsRow base 3 1 (.slice (some ⟨g, 0, none⟩) n c) n (ib (tog L k)) := by
  have := (h.stored k (.int .i64 (bi (!(L.getD k false))))).1
  rw [ib_set] at this
  exact this
theorem own_blk {w : World} {base : Nat} {e : TypeId} {size n : Nat} {v : Value} {xs : List Value} (h : w.ownsRow base e size v n xs) {k : Nat} (hk : v.ownBlock = some k) : base ≤ k ∧ k < w.heap.size := by
  rcases h.2 with ⟨h1, _⟩ | ⟨g, cap, cur, h1, h2, hh, _⟩
  · rw [h1] at hk; cases hk
  · rw [h1] at hk
    have : g = k := by simpa [Value.ownBlock] using hk
    subst this
    exact ⟨h2, (Array.getElem?_eq_some_iff.1 hh).1⟩

theorem acc_next (c k : Nat) (hc : c < 2 ^ 32) (h : c % 2 ^ (k + 1) = c % 2 ^ k + 2 ^ k) : (((c : Int) % 2 ^ k + 2 ^ k % 4294967296) % 4294967296) = ((c % 2 ^ (k + 1) : Nat) : Int) := by
  have hs : c % 2 ^ k + 2 ^ k < 2 ^ 32 := by rw [← h]; exact Nat.lt_of_le_of_lt (Nat.mod_le _ _) hc
  rw [h, show ((2 : Int) ^ k) = ((2 ^ k : Nat) : Int) by simp, ← Int.natCast_emod]
  generalize 2 ^ k = P at *
  generalize c % P = M at *
  omega
def pw : Array Value := #[.int .i64 32, .int .i64 28, .int .i64 27, .int .i64 26, .int .i64 25, .int .i64 23, .int .i64 22, .int .i64 20, .int .i64 19, .int .i64 18, .int .i64 14, .int .i64 13, .int .i64 11, .int .i64 10, .int .i64 9, .int .i64 8, .int .i64 6, .int .i64 0]
theorem pw_get (k : Nat) (hk : k < 18) : pw[k]? = some (.int .i64 ((powers.getD k 0 : Nat) : Int)) := by
  match k, hk with
  | 0, _ => rfl
  | 1, _ => rfl
  | 2, _ => rfl
  | 3, _ => rfl
  | 4, _ => rfl
  | 5, _ => rfl
  | 6, _ => rfl
  | 7, _ => rfl
  | 8, _ => rfl
  | 9, _ => rfl
  | 10, _ => rfl
  | 11, _ => rfl
  | 12, _ => rfl
  | 13, _ => rfl
  | 14, _ => rfl
  | 15, _ => rfl
  | 16, _ => rfl
  | 17, _ => rfl
  | k + 18, h => exact absurd h (by omega)
theorem pow_le (k : Nat) : powers.getD k 0 ≤ 32 := by
  by_cases h : k < 18
  · have : ∀ k, k < 18 → powers.getD k 0 ≤ 32 := by decide
    exact this k h
  · rw [List.getD_eq_getElem?_getD, List.getElem?_eq_none (by show 18 ≤ k; omega)]; simp

set_option maxRecDepth 100000 in
set_option maxHeartbeats 8000000 in
theorem dsum_any (w : World) (A : Option Addr) (n c : Nat) (l : List UInt8) (hn : n = l.length) (hr : Rd w A (cb l)) (hm : l.length ≤ 10000) :
    Calls Tryd.prog 54 #[.slice A n c] w fun e w' => e = .returned (.int .u32 ((Crc.crc l).toNat : Int)) ∧ Fr NoBlk w w' := by
  subst hn
  obtain ⟨i0, hi, hz0, hz1, hz2⟩ := info_parts intInfo
  have HR := Lib.hid hr
  clear hr
  have HO0 : Hid ((w.alloc (.cells #[] 3)).ownsRow w.heap.size 3 1 (.slice (some ⟨w.heap.size, 0, none⟩) 0 0) 0 []) := World.ownsRow_made w #[] 0 (Nat.le_refl _) (by decide) rfl
  have HF0 : Hid (Fr NoBlk w (w.alloc (.cells #[] 3))) := (Fr.refl _ _).alloc _
  go_enter Tryd.func54, Tryd.ntmps54
  go_wp2_with fail
  go_loopw [3, 4] (fun v z wr => ∃ (i : Nat) (v3 : Value), v3 = v ∧ i ≤ l.length ∧ z = .int .i64 i ∧ Hid (wr.ownsRow w.heap.size 3 1 v3 (8 * i) (ib (Crc.bitsOf (l.take i)))) ∧ Hid (Fr NoBlk w wr)) (fun _ z _ => l.length - (intOf z).toNat)
  case atStart => exact ⟨0, _, rfl, by omega, rfl, HO0, HF0⟩
  case round =>
    obtain ⟨i, v3, rfl, hil, rfl, HO, HF⟩ := hrel
    by_cases hlt : i < l.length
    · have HL1 : Hid (wr.ownsRow w.heap.size 3 1 v3 (8 * i + 0) (ib (Crc.bitsOf (l.take i) ++ (Crc.byteBits (l.getD i 0)).take 0))) := by
        have h := HO.out
        rw [List.take_zero, List.append_nil]
        exact h
      have i0' : (0 : Int) ≤ (i : Int) := by omega
      have i1' : (i : Int) < (l.length : Int) := by omega
      obtain ⟨x, hx⟩ : ∃ x, x = l.getD i 0 := ⟨_, rfl⟩
      have HX := Lib.hid hx
      rw [← hx] at HL1
      clear hx
      go_wp2_with fail
      go_loopw [3, 5] (fun v z wr => ∃ (k : Nat) (v3 : Value), v3 = v ∧ k ≤ 8 ∧ z = .int .i64 k ∧ Hid (wr.ownsRow w.heap.size 3 1 v3 (8 * i + k) (ib (Crc.bitsOf (l.take i) ++ (Crc.byteBits x).take k))) ∧ Hid (Fr NoBlk w wr)) (fun _ z _ => 8 - (intOf z).toNat)
      case atStart => exact ⟨0, _, rfl, by omega, rfl, HL1, HF⟩
      case round =>
        clear HO HF HL1
        obtain ⟨k, v4, rfl, hk8, rfl, HO, HF⟩ := hrel
        by_cases hk : k < 8
        · obtain ⟨b, o, hA, hc⟩ := (HR.out.nofr HF.out).byte (k := i) hlt
          rw [← HX.out] at hc
          subst hA
          have e1 := and_bit x k
          have HBT := Lib.hid (byteBits_take x k hk)
          generalize x.toBitVec.getLsbD k = bt at e1 HBT
          have HFA : Hid (Fr NoBlk w (wr.alloc (.cells #[.int .i64 (bi bt)] 3))) := HF.out.alloc _
          have hbs : w.heap.size ≤ wr.heap.size := HF.out.size
          go_wp2_with (at_builtin; refine wpList_app rfl _ _ 38 rfl w.heap.size 3 i0 (.int .i64 0) 8 Tryd.underlying38 hi hz0 hz1 hz2 rfl _ _ _ rfl (HO.out.alloc _) (some ⟨wr.heap.size, 0, none⟩) 1 1 [.int .i64 (bi bt)] rfl rfl ?c1 ?c2 ?c3 ?c4 ?c5 ?c6 ?_)
          case c1 => exact Rd.of_cells (Bk.new _ _ _)
          case c2 => exact ib_one [bt]
          case c3 => intro h; cases h
          case c4 => unfold maxLen; omega
          case c5 => omega
          case c6 => simp; omega
          intro v5 w5 ho5 hg5 _ hb5
          have HO5 : Hid (w5.ownsRow w.heap.size 3 1 v5 (8 * i + (k + 1)) (ib (Crc.bitsOf (l.take i) ++ (Crc.byteBits x).take (k + 1)))) := by
            show World.ownsRow _ _ _ _ _ _ _
            rw [HBT.out, ← List.append_assoc, ib_append]
            exact ho5
          have HF5 := Lib.hid (HFA.out.grown hg5 (fun q hq hlt => absurd (own_blk HO.out hq).1 (by omega)))
          clear ho5 hg5 hb5
          go_wp2_with fail
          go_roundw
          case rel => exact ⟨k + 1, _, rfl, by omega, by go_num, HO5, HF5⟩
          case measure => simp [intOf]; omega
        · obtain rfl : k = 8 := by omega
          have HO8 : Hid (wr.ownsRow w.heap.size 3 1 v4 (8 * (i + 1)) (ib (Crc.bitsOf (l.take (i + 1))))) := by
            have h := HO.out
            rw [byteBits_all] at h
            show World.ownsRow _ _ _ _ _ _ _
            rw [bits_take l i hlt, ← HX.out]
            exact h
          go_wp2_with fail
          go_roundw
          case rel => exact ⟨i + 1, _, rfl, by omega, by go_num, HO8, HF⟩
          case measure => simp [intOf]; omega
    · obtain rfl : i = l.length := by omega
      have HO1 : Hid (wr.ownsRow w.heap.size 3 1 v3 (8 * l.length + 0) (ib (Crc.bitsOf l ++ List.replicate 0 false))) := by
        have h := HO.out
        rw [List.take_of_length_le (Nat.le_refl _)] at h
        rw [List.replicate_zero, List.append_nil]
        exact h
      go_wp2_with fail
      go_loopw [3, 6] (fun v z wr => ∃ (k : Nat) (v3 : Value), v3 = v ∧ k ≤ 32 ∧ z = .int .i64 k ∧ Hid (wr.ownsRow w.heap.size 3 1 v3 (8 * l.length + k) (ib (Crc.bitsOf l ++ List.replicate k false))) ∧ Hid (Fr NoBlk w wr)) (fun _ z _ => 32 - (intOf z).toNat)
      case atStart => exact ⟨0, _, rfl, by omega, rfl, HO1, HF⟩
      case round =>
        clear HO HF HO1
        obtain ⟨k, v4, rfl, hk32, rfl, HO, HF⟩ := hrel
        by_cases hk : k < 32
        · have HFA : Hid (Fr NoBlk w (wr.alloc (.cells #[.int .i64 0] 3))) := HF.out.alloc _
          have hbs : w.heap.size ≤ wr.heap.size := HF.out.size
          go_wp2_with (at_builtin; refine wpList_app rfl _ _ 38 rfl w.heap.size 3 i0 (.int .i64 0) 8 Tryd.underlying38 hi hz0 hz1 hz2 rfl _ _ _ rfl (HO.out.alloc _) (some ⟨wr.heap.size, 0, none⟩) 1 1 [.int .i64 0] rfl rfl ?c1 ?c2 ?c3 ?c4 ?c5 ?c6 ?_)
          case c1 => exact Rd.of_cells (Bk.new _ _ _)
          case c2 => exact ib_one [false]
          case c3 => intro h; cases h
          case c4 => unfold maxLen; omega
          case c5 => omega
          case c6 => simp; omega
          intro v5 w5 ho5 hg5 _ hb5
          have HO5 : Hid (w5.ownsRow w.heap.size 3 1 v5 (8 * l.length + (k + 1)) (ib (Crc.bitsOf l ++ List.replicate (k + 1) false))) := by
            show World.ownsRow _ _ _ _ _ _ _
            rw [List.replicate_succ', ← List.append_assoc, ib_append]
            exact ho5
          have HF5 := Lib.hid (HFA.out.grown hg5 (fun q hq hlt => absurd (own_blk HO.out hq).1 (by omega)))
          clear ho5 hg5 hb5
          go_wp2_with fail
          go_roundw
          case rel => exact ⟨k + 1, _, rfl, by omega, by go_num, HO5, HF5⟩
          case measure => simp [intOf]; omega
        · obtain rfl : k = 32 := by omega
          have HML := Lib.hid (msg_len l)
          have HD0 : Hid (Flip (Crc.bitsOf l ++ List.replicate 32 false) 0 (Crc.bitsOf l ++ List.replicate 32 false)) := Flip.start _
          obtain ⟨nn, hnn⟩ : ∃ nn, nn = 8 * l.length + 32 := ⟨_, rfl⟩
          have HO2 := HO
          rw [← hnn] at HO2
          obtain ⟨g, cp, rfl, hgb, hcp, _, _⟩ := ib_cell HO2.out (by omega) (by rw [HML.out, hnn])
          have HNN := Lib.hid hnn
          have hn1 : 8 * l.length + 32 ≤ nn := by omega
          have hn2 : nn ≤ 8 * l.length + 32 := by omega
          have HGB := Lib.hid hgb
          clear hnn hgb
          have hcp' : (nn : Int) ≤ (cp : Int) := by omega
          go_wp2_with fail
          go_loopw [7] (fun z wr => ∃ (k : Nat) (L : List Bool), k ≤ 32 ∧ z = .int .i64 k ∧ Hid (Flip (Crc.bitsOf l ++ List.replicate 32 false) k L) ∧ Hid (wr.ownsRow w.heap.size 3 1 (.slice (some ⟨g, 0, none⟩) nn cp) nn (ib L)) ∧ Hid (Fr NoBlk w wr)) (fun z _ => 32 - (intOf z).toNat)
          case atStart => exact ⟨0, _, by omega, rfl, HD0, HO2, HF⟩
          case round =>
            clear HO HF HO2 HD0
            obtain ⟨k, L, hk32, rfl, HL, HO, HF⟩ := hrel
            have HLl : Hid (L.length = nn) := by show _ = _; rw [HL.out.len, HML.out, HNN.out]
            obtain ⟨_, _, hv, _, _, hcell, hfr⟩ := ib_cell HO.out (by omega) HLl.out
            injection hv with hv1 hv2 hv3
            injection hv1 with hv1
            injection hv1 with hv1 hv4 hv5
            subst hv1 hv3
            clear hv2 hv4 hv5
            by_cases hk : k < 32
            · have hc := hcell k (by omega)
              have hf := hfr k
              have e1 : wrap64 (1 - bi (L.getD k false)) = bi (!(L.getD k false)) := by rw [bi_not]; exact wrap64_bit _ (by cases L.getD k false <;> decide)
              have e2 : IntKind.i64.wrap (1 - bi (L.getD k false)) = bi (!(L.getD k false)) := by rw [bi_not]; exact IntWalk.i64_in _ (by cases L.getD k false <;> decide)
              have HN := Lib.hid (HL.out.next (by rw [HML.out]; omega))
              have HST := Lib.hid (ib_store HO.out k)
              have HF2 := Lib.hid (HF.out.setCell (p := ⟨g, k, none⟩) (fun h => absurd h (by have := HGB.out; show ¬ g < _; omega)) (.int .i64 (bi (!(L.getD k false)))))
              have i1' : (k : Int) < (nn : Int) := by omega
              generalize L.getD k false = bt at *
              clear hcell hfr
              go_wp2_with fail
              go_roundw
              case rel => exact ⟨k + 1, _, by omega, by go_num, HN, HST, HF2⟩
              case measure => simp [intOf]; omega
            · have HK : Hid (k = 32) := by show _ = _; omega
              have HDA : Hid (DivAt l 0 L) := DivAt.start (by have := HL.out; rwa [HK.out] at this)
              have HP : Hid (Fr NoBlk w (wr.alloc (.cells #[.int .i64 32, .int .i64 28, .int .i64 27, .int .i64 26, .int .i64 25, .int .i64 23, .int .i64 22, .int .i64 20, .int .i64 19, .int .i64 18, .int .i64 14, .int .i64 13, .int .i64 11, .int .i64 10, .int .i64 9, .int .i64 8, .int .i64 6, .int .i64 0] 114))) := HF.out.alloc _
              clear hcell hfr
              go_upto_region 17 with fail
              go_cut [8] (fun s8 wx => ∃ gp : Nat, s8 = .pointer (some ⟨gp, 0, none⟩) ∧ Hid (wr.heap.size ≤ gp) ∧ Hid (Bk wx gp 114 pw) ∧ Hid (Fr NoBlk wr wx))
              case first =>
                go_wp2_with fail
                go_meet
                exact ⟨_, rfl, Nat.le_refl _, Bk.new _ _ _, (Fr.refl _ _).alloc _⟩
              case rest =>
                obtain ⟨gp, rfl, HGP, HBP, HFP⟩ := hcut
                have HO5 : Hid (wc.ownsRow w.heap.size 3 1 (.slice (some ⟨g, 0, none⟩) nn cp) nn (ib L)) := own_fr HO.out HFP.out (fun _ _ h => h)
                have HF5 := Lib.hid (HF.out.trans HFP.out)
                clear HF HO HL HFP HGP HLl
                go_wp2_with fail
                go_loopw [9] (fun z wx => ∃ (i : Nat) (L : List Bool), i ≤ 8 * l.length ∧ z = .int .i64 i ∧ Hid (DivAt l i L) ∧ Hid (wx.ownsRow w.heap.size 3 1 (.slice (some ⟨g, 0, none⟩) nn cp) nn (ib L)) ∧ Hid (Bk wx gp 114 pw) ∧ Hid (Fr NoBlk w wx)) (fun z _ => 8 * l.length - (intOf z).toNat)
                case atStart => exact ⟨0, L, by omega, rfl, HDA, HO5, HBP, HF5⟩
                case round =>
                  clear HDA HO5 HBP HF5
                  obtain ⟨i, L, hi8, rfl, HD, HO, HB, HF⟩ := hrel
                  have HLl : Hid (L.length = nn) := by show _ = _; rw [HD.out.len, HNN.out]
                  obtain ⟨_, _, hv, _, _, hcell, hfr⟩ := ib_cell HO.out (by omega) HLl.out
                  injection hv with hv1 hv2 hv3
                  injection hv1 with hv1
                  injection hv1 with hv1 hv4 hv5
                  subst hv1 hv3
                  clear hv2 hv4 hv5
                  by_cases hlt : i + 32 < nn
                  · have i1' : (i : Int) + 32 < (nn : Int) := by omega
                    have i2' : (i : Int) < (nn : Int) := by omega
                    cases hb : L.getD i false with
                    | false =>
                      have hc : wr.cell? ⟨g, i, none⟩ = some (.int .i64 0) := by rw [hcell i (by omega), hb]; rfl
                      have HN := Lib.hid (HD.out.off (by omega) hb)
                      clear hcell hfr hb
                      go_wp2_with fail
                      go_roundw
                      case rel => exact ⟨i + 1, L, by omega, by go_num, HN, HO, HB, HF⟩
                      case measure => simp [intOf]; omega
                    | true =>
                      have hc : wr.cell? ⟨g, i, none⟩ = some (.int .i64 1) := by rw [hcell i (by omega), hb]; rfl
                      have HN := Lib.hid (HD.out.on (by omega) hb)
                      have HO6 : Hid (wr.ownsRow w.heap.size 3 1 (.slice (some ⟨g, 0, none⟩) nn cp) nn (ib (togs L i (powers.take 0)))) := HO
                      clear hcell hfr hb
                      go_wp2_with fail
                      go_loopw [10] (fun z wx => ∃ k : Nat, k ≤ 18 ∧ z = .int .i64 k ∧ Hid (wx.ownsRow w.heap.size 3 1 (.slice (some ⟨g, 0, none⟩) nn cp) nn (ib (togs L i (powers.take k)))) ∧ Hid (Bk wx gp 114 pw) ∧ Hid (Fr NoBlk w wx)) (fun z _ => 18 - (intOf z).toNat)
                      case atStart => exact ⟨0, by omega, rfl, HO6, HB, HF⟩
                      case round =>
                        clear HO HB HF HO6 hc
                        obtain ⟨k, hk18, rfl, HO, HB, HF⟩ := hrel
                        by_cases hk : k < 18
                        · obtain ⟨p, hp⟩ : ∃ p, p = powers.getD k 0 := ⟨_, rfl⟩
                          have hp32 := pow_le k
                          have hpc : wr.cell? ⟨gp, k, none⟩ = some (.int .i64 ((powers.getD k 0 : Nat) : Int)) := (HB.out.cell k).trans (pw_get k hk)
                          rw [← hp] at hp32 hpc
                          obtain ⟨q, hq⟩ : ∃ q, q = i + 32 - p := ⟨_, rfl⟩
                          have HTL : Hid ((togs L i (powers.take k)).length = nn) := by show _ = _; rw [togs_len, HLl.out]
                          obtain ⟨_, _, hv, _, _, hcell, hfr⟩ := ib_cell HO.out (by omega) HTL.out
                          injection hv with hv1 hv2 hv3
                          injection hv1 with hv1
                          injection hv1 with hv1 hv4 hv5
                          subst hv1 hv3
                          clear hv2 hv4 hv5
                          have hcq := hcell q (by omega)
                          have hfq := hfr q
                          have HST := Lib.hid (ib_store HO.out q)
                          have HNX : Hid (togs L i (powers.take (k + 1)) = tog (togs L i (powers.take k)) q) := by show _ = _; rw [togs_next L i k hk, ← hp, ← hq]
                          have hne : gp ≠ g := by
                            rintro rfl
                            have h1 := HB.out
                            rcases HO.out.2 with ⟨h2, _⟩ | ⟨g', cap', cur', h2, _, h3, _⟩
                            · cases h2
                            · injection h2 with h2
                              injection h2 with h2
                              injection h2 with h2
                              subst h2
                              unfold Bk at h1
                              rw [h1] at h3
                              injection h3 with h3
                              injection h3 with _ h3
                              exact absurd h3 (by decide)
                          have HB2 := Lib.hid (HB.out.far (p := ⟨g, q, none⟩) hne (.int .i64 (bi (!((togs L i (powers.take k)).getD q false)))))
                          have HF2 := Lib.hid (HF.out.setCell (p := ⟨g, q, none⟩) (fun h => absurd h (by have := HGB.out; show ¬ g < _; omega)) (.int .i64 (bi (!((togs L i (powers.take k)).getD q false)))))
                          generalize (togs L i (powers.take k)).getD q false = bt at *
                          have hW1 : IntKind.i64.wrap ((i : Int) + 32) = (i : Int) + 32 := IntWalk.i64_in _ (by omega)
                          have hW2 : IntKind.i64.wrap ((i : Int) + 32 - (p : Int)) = (q : Int) := by rw [IntWalk.i64_in _ (by omega)]; omega
                          have hW3 : IntKind.i64.wrap (1 - bi bt) = bi (!bt) := by rw [bi_not]; exact IntWalk.i64_in _ (by cases bt <;> decide)
                          have q0 : (0 : Int) ≤ (q : Int) := by omega
                          have q1 : (q : Int) < (nn : Int) := by omega
                          have k0 : (0 : Int) ≤ (k : Int) := by omega
                          have k1 : (k : Int) < 18 := by omega
                          clear hcell hfr hp hq
                          go_wp2_with fail
                          go_region
                          all_goals
                            go_wp2_with fail
                            go_roundw
                            case rel =>
                              refine ⟨k + 1, by omega, by go_num, ?_, ?_, ?_⟩
                              · show World.ownsRow _ _ _ _ _ _ _
                                rw [HNX.out]
                                exact HST.out
                              · exact HB2.out
                              · first | exact HF2.out | exact HF2.out.drew
                            case measure => simp [intOf]; omega
                        · have HK18 : Hid (wr.ownsRow w.heap.size 3 1 (.slice (some ⟨g, 0, none⟩) nn cp) nn (ib (togs L i powers))) := by
                            have e : k = 18 := by omega
                            have h := HO.out
                            rw [e] at h
                            exact h
                          go_wp2_with fail
                          go_roundw
                          case rel => exact ⟨i + 1, _, by omega, by go_num, HN, HK18, HB, HF⟩
                          case measure => simp [intOf]; omega
                  · have HI : Hid (i = 8 * l.length) := by show _ = _; omega
                    have HDF : Hid (∀ k, k < 32 → (!(L.getD (8 * l.length + k) false)) = (Crc.crc l).getLsbD k) := by
                      have h := HD.out
                      rw [HI.out] at h
                      exact h.fin
                    have HCL := Lib.hid hcell
                    have i1' : (nn : Int) ≤ (i : Int) + 32 := by omega
                    clear hcell hfr HD
                    go_wp2_with fail
                    go_loop [11, 12] (fun o z => ∃ k : Nat, k ≤ 32 ∧ z = .int .i64 k ∧ o = .int .u32 (((Crc.crc l).toNat % 2 ^ k : Nat) : Int)) (fun _ z => 32 - (intOf z).toNat)
                    case atStart => exact ⟨0, by omega, rfl, by rw [Nat.pow_zero, Nat.mod_one]; rfl⟩
                    case round =>
                      obtain ⟨k, hk32, rfl, rfl⟩ := hrel
                      by_cases hk : k < 32
                      · have hc := HCL.out (8 * l.length + k) (by omega)
                        have HBQ := Lib.hid (HDF.out k hk)
                        have HLN := Lib.hid (low_next (Crc.crc l) k)
                        have e3 : ((nn : Int) - 32 + (k : Int)).toNat = 8 * l.length + k := by omega
                        have j0 : (0 : Int) ≤ (nn : Int) - 32 + (k : Int) := by omega
                        have j1 : (nn : Int) - 32 + (k : Int) < (nn : Int) := by omega
                        cases hb : L.getD (8 * l.length + k) false with
                        | false =>
                          rw [hb] at hc
                          have hc : wr.cell? ⟨g, 8 * l.length + k, none⟩ = some (.int .i64 0) := hc
                          have HQ : Hid ((Crc.crc l).toNat % 2 ^ (k + 1) = (Crc.crc l).toNat % 2 ^ k + 2 ^ k) := by
                            show _ = _
                            rw [HLN.out, ← HBQ.out, hb]
                            rfl
                          clear hb
                          go_wp2_with fail
                          go_round
                          case rel =>
                            exact ⟨k + 1, by omega, by go_num, congrArg (Value.int .u32) (acc_next _ k (Crc.crc l).isLt HQ.out)⟩
                          case measure => simp [intOf]; omega
                        | true =>
                          rw [hb] at hc
                          have hc : wr.cell? ⟨g, 8 * l.length + k, none⟩ = some (.int .i64 1) := hc
                          have HQ : Hid ((Crc.crc l).toNat % 2 ^ (k + 1) = (Crc.crc l).toNat % 2 ^ k) := by
                            show _ = _
                            rw [HLN.out, ← HBQ.out, hb]
                            rfl
                          clear hb
                          go_wp2_with fail
                          go_round
                          case rel => exact ⟨k + 1, by omega, by go_num, by rw [HQ.out]⟩
                          case measure => simp [intOf]; omega
                      · have HQ : Hid (((Crc.crc l).toNat : Int) % 2 ^ k = ((Crc.crc l).toNat : Int)) := by
                          have e : k = 32 := by omega
                          have h := (Crc.crc l).isLt
                          show _ = _
                          rw [e]
                          omega
                        go_wp2_with fail
                        go_ret
                        exact ⟨congrArg (fun q : Int => Ending.returned (.int .u32 q)) HQ.out, HF.out⟩
end Go.Proofs.YtokonhcphhpogaaDoor

namespace Go.Proofs.YtokonhcphhpogaaDoor
open Go.RowKit

def FrLong (w : World) (e : Ending) (w' : World) : Prop := ∃ A c, e = .returned (.tuple #[.slice A 0 c, .int .i64 1]) ∧ Fr NoBlk w w'
set_option maxRecDepth 100000 in
theorem dframe_long (w : World) (A : Option Addr) (n c : Nat) (hl : 4096 < n) :
    Calls Tryd.prog 34 #[.slice A n c] w (FrLong w) := by
  have HF : Hid (Fr NoBlk w (w.alloc (.cells #[] 5))) := (Fr.refl _ _).alloc _
  go_enter Tryd.func34, Tryd.ntmps34
  go_wp2_with fail
  go_ret2
  exact ⟨_, _, rfl, HF.out⟩

def FrPost (w : World) (l : List UInt8) (e : Ending) (w' : World) : Prop := ∃ v', e = .returned (.tuple #[v', .int .i64 0]) ∧ New w w' v' (frameOf l)

theorem own_lit (w : World) (base : Nat) (e : TypeId) (n : Nat) (xs : List Value) (hb : base ≤ w.heap.size) (hm : n ≤ maxLen) (hn : xs.length = n) :
    (w.alloc (.cells xs.toArray e)).ownsRow base e 1 (.slice (some ⟨w.heap.size, 0, none⟩) n n) n xs :=
  ⟨by omega, .inr ⟨w.heap.size, n, xs.toArray, rfl, hb, heap_alloc_new w _, Nat.le_refl _, hm, by simp [hn], by simp [← hn]⟩⟩
theorem sum4_get (s : BitVec 32) (k : Nat) (hk : k < 4) : (s.toNat : Int) / 2 ^ (8 * k) % 256 = (((sum4 s).getD k 0).toNat : Int) := by
  have hs := s.isLt
  match k, hk with
  | 0, _ => simp [sum4]
  | 1, _ => simp [sum4]
  | 2, _ => simp [sum4]
  | 3, _ => simp [sum4]
theorem sum4_take (s : BitVec 32) (k : Nat) (hk : k < 4) : (sum4 s).take (k + 1) = (sum4 s).take k ++ [(sum4 s).getD k 0] := by
  rw [List.take_succ_eq_append_getElem (by rw [sum4_len]; exact hk), List.getD_eq_getElem?_getD, List.getElem?_eq_getElem (by rw [sum4_len]; exact hk)]; rfl

set_option maxRecDepth 100000 in
set_option maxHeartbeats 4000000 in
theorem dframe_any (w : World) (A : Option Addr) (n c : Nat) (l : List UInt8) (hn : n = l.length) (hr : Rd w A (cb l)) (hA : A = none → c = 0) (hl : l.length ≤ 4096) :
    Calls Tryd.prog 34 #[.slice A n c] w (FrPost w l) := by
  subst hn
  obtain ⟨i0, hi, hz0, hz1, hz2⟩ := info_parts byteInfo
  have HR := Lib.hid hr
  have HA := Lib.hid hA
  have ehd : ([.int .u8 ((l.length : Int) / 256), .int .u8 ((l.length : Int) % 256)] : List Value) = cb (head l.length) := by
    unfold head cb
    simp only [List.map_cons, List.map_nil, UInt8.toNat_ofNat']
    rw [Nat.mod_eq_of_lt (show l.length / 256 < 2 ^ 8 by omega)]
    rfl
  have hf1 : Fr NoBlk w (w.alloc (.cells #[.int .u8 ((l.length : Int) / 256), .int .u8 ((l.length : Int) % 256)] 5)) := (Fr.refl _ _).alloc _
  have hb1 := Bk.new w 5 #[.int .u8 ((l.length : Int) / 256), .int .u8 ((l.length : Int) % 256)]
  have ho1 : (w.alloc (.cells #[.int .u8 ((l.length : Int) / 256), .int .u8 ((l.length : Int) % 256)] 5)).ownsRow w.heap.size 5 1 (.slice (some ⟨w.heap.size, 0, none⟩) 2 2) 2 (cb (head l.length)) := by
    rw [← ehd]
    exact own_lit w w.heap.size _ 2 [.int .u8 ((l.length : Int) / 256), .int .u8 ((l.length : Int) % 256)] (Nat.le_refl _) (by decide) rfl
  have hr1 := Rd.of_own ho1
  have HO1 := Lib.hid ho1
  have HF1 := Lib.hid hf1
  have HR1 : Hid (Rd ((w.alloc (.cells #[.int .u8 ((l.length : Int) / 256), .int .u8 ((l.length : Int) % 256)] 5)).alloc (.cells #[] 5)) (some ⟨w.heap.size, 0, none⟩) (cb (head l.length))) := hr1.alloc _
  have HE2 : Hid (((w.alloc (.cells #[.int .u8 ((l.length : Int) / 256), .int .u8 ((l.length : Int) % 256)] 5)).alloc (.cells #[] 5)).ownsRow (w.heap.size + 1) 5 1 (.slice (some ⟨w.heap.size + 1, 0, none⟩) 0 0) 0 []) := by
    have h := World.ownsRow_made (e := 5) (size := 1) (w.alloc (.cells #[.int .u8 ((l.length : Int) / 256), .int .u8 ((l.length : Int) % 256)] 5)) #[] 0 (Nat.le_refl _) (by decide) rfl
    have e : (w.alloc (.cells #[.int .u8 ((l.length : Int) / 256), .int .u8 ((l.length : Int) % 256)] 5)).heap.size = w.heap.size + 1 := by simp
    rw [e] at h
    exact h
  clear hr hA ehd hf1 hb1 ho1 hr1
  go_enter Tryd.func34, Tryd.ntmps34
  go_wp2_with (at_builtin; refine wpList_app rfl (.tmp 20) (.tmp 21) 22 rfl (w.heap.size + 1) 5 i0 (.int .u8 0) 1 Tryd.underlying22 hi hz0 hz1 hz2 rfl _ _ _ rfl HE2.out (some ⟨w.heap.size, 0, none⟩) 2 2 (cb (head l.length)) rfl rfl HR1.out (cb_one _) (fun h => by cases h) (by unfold maxLen; omega) (by omega) ?c5 ?_)
  case c5 => simp
  intro v3 w3 ho3 hg3 _ hb3
  have HF3 := Lib.hid ((HF1.out.alloc (.cells #[] 5)).grown hg3 (fun q hq hlt => by simp [Value.ownBlock] at hq; omega))
  have HF13 : Hid (Fr NoBlk (w.alloc (.cells #[.int .u8 ((l.length : Int) / 256), .int .u8 ((l.length : Int) % 256)] 5)) w3) := ((Fr.refl _ _).alloc (.cells #[] 5)).grown hg3 (fun q hq hlt => by simp [Value.ownBlock] at hq; simp at hlt; omega)
  have HS3 : Hid (w.heap.size + 1 ≤ w3.heap.size) := by have := HF13.out.size; simp at this; exact this
  have HO3 : Hid (w3.ownsRow (w.heap.size + 1) 5 1 v3 2 (cb (head l.length))) := ho3
  have HR3 := Lib.hid (HR.out.nofr HF3.out)
  clear ho3 hg3 hb3 HE2 HR1
  go_wp2_with (at_builtin; refine wpList_app rfl (.tmp 22) (.tmp 23) 22 rfl (w.heap.size + 1) 5 i0 (.int .u8 0) 1 Tryd.underlying22 hi hz0 hz1 hz2 rfl _ _ _ rfl HO3.out A c l.length (cb l) rfl (cb_length l) HR3.out (cb_one _) HA.out (by unfold maxLen; omega) (by omega) HS3.out ?_)
  intro v4 w4 ho4 hg4 _ hb4
  have HF34 : Hid (Fr NoBlk (w.alloc (.cells #[.int .u8 ((l.length : Int) / 256), .int .u8 ((l.length : Int) % 256)] 5)) w4) := HF13.out.grown hg4 (fun q hq hlt => by have := (own_blk HO3.out hq).1; simp at hlt; omega)
  obtain ⟨d, hd⟩ : ∃ d, d = head l.length ++ l := ⟨_, rfl⟩
  have hdl : d.length = 2 + l.length := by rw [hd, List.length_append, head_len]
  rw [← cb_append, ← hd] at ho4
  obtain ⟨A4, c4, rfl, _, _⟩ := own_form ho4
  obtain ⟨s, hs⟩ : ∃ s, s = Crc.crc d := ⟨_, rfl⟩
  have HK := Lib.hid (dsum_any w4 A4 (2 + l.length) c4 d hdl.symm (Rd.of_own ho4) (by omega))
  rw [← hs] at HK
  have HFD : Hid (frameOf l = head l.length ++ (sum4 s ++ l)) := by show _ = _; rw [hs, hd]; rfl
  have HO4 := Lib.hid (own_fr HO1.out HF34.out (fun _ _ h => h))
  have HF4 := Lib.hid (HF1.out.trans HF34.out)
  clear ho4 hg4 hb4 hd hdl hs HF34 HF13 HO3 HR3 HF3 HO1 HF1 HS3
  go_wp2_with fail
  refine HK.out.mono ?_
  rintro e w5 ⟨rfl, hf5⟩
  have HF5 := Lib.hid (HF4.out.trans hf5)
  have HO5 : Hid (w5.ownsRow w.heap.size 5 1 (.slice (some ⟨w.heap.size, 0, none⟩) 2 2) (2 + 0) (cb (head l.length ++ (sum4 s).take 0))) := by
    rw [List.take_zero, List.append_nil]
    exact own_fr HO4.out hf5 (fun _ _ h => h)
  clear hf5 HK HO4 HF4
  have hs4 : s.toNat < 4294967296 := by have := s.isLt; omega
  go_wp2_with fail
  go_loopw [5, 7] (fun v z wr => ∃ (k : Nat) (v5 : Value), v5 = v ∧ k ≤ 4 ∧ z = .int .i64 k ∧ Hid (wr.ownsRow w.heap.size 5 1 v5 (2 + k) (cb (head l.length ++ (sum4 s).take k))) ∧ Hid (Fr NoBlk w wr)) (fun _ z _ => 4 - (intOf z).toNat)
  case atStart => exact ⟨0, _, rfl, by omega, rfl, HO5, HF5⟩
  case round =>
    clear HO5 HF5
    obtain ⟨k, v5, rfl, hk4, rfl, HO, HF⟩ := hrel
    have hbs : w.heap.size ≤ wr.heap.size := HF.out.size
    by_cases hk : k < 4
    · have e1 := sum4_get s k hk
      have HTK := Lib.hid (sum4_take s k hk)
      generalize (sum4 s).getD k 0 = x at *
      have HFA : Hid (Fr NoBlk w (wr.alloc (.cells #[.int .u8 (x.toNat : Int)] 5))) := HF.out.alloc _
      go_wp2_with (at_builtin; refine wpList_app rfl (.tmp 30) (.tmp 37) 22 rfl w.heap.size 5 i0 (.int .u8 0) 1 Tryd.underlying22 hi hz0 hz1 hz2 rfl _ _ _ rfl (HO.out.alloc _) (some ⟨wr.heap.size, 0, none⟩) 1 1 (cb [x]) rfl rfl ?c1 (cb_one _) (fun h => by cases h) (by unfold maxLen; omega) (by omega) ?c6 ?_)
      case c1 => exact Rd.of_cells (Bk.new _ _ _)
      case c6 => simp; omega
      intro v6 w6 ho6 hg6 _ hb6
      have HO6 : Hid (w6.ownsRow w.heap.size 5 1 v6 (2 + (k + 1)) (cb (head l.length ++ (sum4 s).take (k + 1)))) := by
        show World.ownsRow _ _ _ _ _ _ _
        rw [HTK.out, ← List.append_assoc, cb_append]
        exact ho6
      have HF6 := Lib.hid (HFA.out.grown hg6 (fun q hq hlt => absurd (own_blk HO.out hq).1 (by omega)))
      clear ho6 hg6 hb6
      go_wp2_with fail
      go_roundw
      case rel => exact ⟨k + 1, _, rfl, by omega, by go_num, HO6, HF6⟩
      case measure => simp [intOf]; omega
    · have HO7 : Hid (wr.ownsRow w.heap.size 5 1 v5 6 (cb (head l.length ++ sum4 s))) := by
        have e : k = 4 := by omega
        have h := HO.out
        rw [e, List.take_of_length_le (by rw [sum4_len]; exact Nat.le_refl _)] at h
        exact h
      have HR7 := Lib.hid (HR.out.nofr HF.out)
      go_wp2_with (at_builtin; refine wpList_app rfl (.tmp 39) (.tmp 40) 22 rfl w.heap.size 5 i0 (.int .u8 0) 1 Tryd.underlying22 hi hz0 hz1 hz2 rfl _ _ _ rfl HO7.out A c l.length (cb l) rfl (cb_length l) HR7.out (cb_one _) HA.out (by unfold maxLen; omega) (by omega) hbs ?_)
      intro v6 w6 ho6 hg6 _ hb6
      have HO6 : Hid (w6.ownsRow w.heap.size 5 1 v6 (frameOf l).length (cb (frameOf l))) := by
        show World.ownsRow _ _ _ _ _ _ _
        rw [frameOf_len, HFD.out, ← List.append_assoc, cb_append]
        exact ho6
      have HF6 := Lib.hid (HF.out.grown hg6 (fun q hq hlt => absurd (own_blk HO7.out hq).1 (by omega)))
      clear ho6 hg6 hb6
      go_wp2_with fail
      go_ret2
      exact ⟨_, rfl, HO6.out, HF6.out⟩
end Go.Proofs.YtokonhcphhpogaaDoor

namespace Go.Proofs.YtokonhcphhpogaaDoor
open Go.RowKit

def bs (l : List UInt8) : ByteArray := ⟨l.toArray⟩
theorem bs_toList (l : List UInt8) : (bs l).toList = l := by
  rw [ByteArray.toList_eq]
  simp [bs]
theorem new_empty (w w' : World) (h : Fr NoBlk w w') : New w (w'.alloc (.cells #[] 5)) (.slice (some ⟨w'.heap.size, 0, none⟩) 0 0) [] :=
  ⟨own_base (World.ownsRow_made (e := 5) (size := 1) w' #[] 0 (Nat.le_refl _) (by decide) rfl) h.size, h.alloc _⟩

set_option maxRecDepth 100000 in
set_option maxHeartbeats 4000000 in
theorem dunframe_any (w : World) (A : Option Addr) (n c : Nat) (l : List UInt8) (hn : n = l.length) (hr : Rd w A (cb l)) (hA : A = none → c = 0) (hl : l.length ≤ 1000000000) (hnc : n ≤ c) :
    Calls Tryd.prog 31 #[.slice A n c] w fun e w' => UnPost w w' e (unfr l) := by
  subst hn
  obtain ⟨i0, hi, iz0, iz1, iz2⟩ := info_parts byteInfo
  have HR := Lib.hid hr
  have HA := Lib.hid hA
  clear hr hA
  obtain ⟨u, hu⟩ : ∃ u, u = unfr l := ⟨_, rfl⟩
  rw [← hu]
  have HU := Lib.hid hu
  clear hu
  by_cases h6 : l.length < 6
  · have HU2 : Hid (u = ([], 0, 30)) := by show _ = _; rw [HU.out]; unfold unfr; rw [if_pos h6]
    go_enter Tryd.func31, Tryd.ntmps31
    go_wp2_with fail
    go_ret3
    rw [HU2.out]
    exact ⟨_, rfl, new_empty w w (Fr.refl _ _)⟩
  · obtain ⟨b, o, rfl, hc0⟩ := HR.out.byte (k := 0) (by omega)
    obtain ⟨_, _, e1, hc1⟩ := HR.out.byte (k := 1) (by omega)
    injection e1 with e1
    injection e1 with e1 e2
    subst e1 e2
    rw [Nat.add_zero] at hc0
    obtain ⟨x, hx⟩ : ∃ x, x = l.getD 0 0 := ⟨_, rfl⟩
    obtain ⟨y, hy⟩ : ∃ y, y = l.getD 1 0 := ⟨_, rfl⟩
    rw [← hx] at hc0
    rw [← hy] at hc1
    have HX := Lib.hid hx
    have HY := Lib.hid hy
    have hx1 : x.toNat < 256 := x.toNat_lt
    have hy1 : y.toNat < 256 := y.toNat_lt
    clear hx hy
    obtain ⟨z, hz⟩ : ∃ z, z = x.toNat * 256 + y.toNat := ⟨_, rfl⟩
    have hz1 : z < 65536 := by omega
    have HZ := Lib.hid hz
    obtain ⟨q, hq⟩ : ∃ q, q = 6 + z := ⟨_, rfl⟩
    have e2 : (6 : Int) + (z : Int) = (q : Int) := by omega
    have HQ := Lib.hid hq
    obtain ⟨xn, hxn⟩ : ∃ xn, xn = x.toNat := ⟨_, rfl⟩
    obtain ⟨yn, hyn⟩ : ∃ yn, yn = y.toNat := ⟨_, rfl⟩
    have HXN := Lib.hid hxn
    have HYN := Lib.hid hyn
    rw [← hxn] at hc0 hx1 hz HZ
    rw [← hyn] at hc1 hy1 hz HZ
    have e3 : IntKind.i64.wrap (256 * (xn : Int)) = 256 * (xn : Int) := IntWalk.i64_in _ (by omega)
    have e4 : IntKind.i64.wrap (256 * (xn : Int) + (yn : Int)) = (z : Int) := by rw [IntWalk.i64_in _ (by omega)]; omega
    have e5 : 256 * (xn : Int) + (yn : Int) = (z : Int) := by omega
    clear hxn hyn hq hz
    by_cases h4 : 4096 < z
    · have HU2 : Hid (u = ([], 0, 31)) := by
        show _ = _
        rw [HU.out]; unfold unfr; rw [if_neg h6, if_pos]
        rw [← HX.out, ← HY.out, ← HXN.out, ← HYN.out, ← HZ.out]
        exact h4
      go_enter Tryd.func31, Tryd.ntmps31
      go_wp2
      go_quiet (fail)
      go_wp2
      go_ret3
      rw [HU2.out]
      exact ⟨_, rfl, new_empty w _ ((Fr.refl _ _).drewN _)⟩
    by_cases hsh : l.length < q
    · have HU2 : Hid (u = ([], 0, 30)) := by
        show _ = _
        rw [HU.out]; unfold unfr; rw [if_neg h6, if_neg, if_pos]
        all_goals
          rw [← HX.out, ← HY.out, ← HXN.out, ← HYN.out, ← HZ.out]
          omega
      have hzl : (l.length : Int) - 6 < (z : Int) := by omega
      go_enter Tryd.func31, Tryd.ntmps31
      go_wp2
      go_quiet (fail)
      go_wp2
      go_ret3
      rw [HU2.out]
      exact ⟨_, rfl, new_empty w _ ((Fr.refl _ _).drewN _)⟩
    obtain ⟨d, hd⟩ : ∃ d, d = (l.drop 6).take z := ⟨_, rfl⟩
    have hzq : q - 6 = z := by have := HQ.out; omega
    have hdz : d.length = z := by rw [hd, List.length_take, List.length_drop]; have := HQ.out; omega
    have HU2 : Hid (u = if frameOf d = l.take q then (d, q, 0) else ([], 0, 33)) := by
      show _ = _
      rw [HU.out]; unfold unfr
      rw [← HX.out, ← HY.out, ← HXN.out, ← HYN.out, ← HZ.out, ← HQ.out, ← hd, if_neg h6, if_neg h4, if_neg hsh]
    have HB1 : Hid (c = 6 → d = []) := fun h => List.eq_nil_of_length_eq_zero (by have := HQ.out; omega)
    have HB2 : Hid (Rd w (some ⟨b, o + 6, none⟩) (cb d)) := by
      intro hx
      refine ⟨b, o + 6, rfl, fun j v hv => ?_⟩
      rw [cb_length] at hx
      obtain ⟨b', o', e, hcell⟩ := HR.out (by rw [cb_length]; omega)
      injection e with e
      injection e with ea eb
      subst ea eb
      rw [hd, cb_take, cb_drop, List.getElem?_take] at hv
      split at hv
      · rw [List.getElem?_drop] at hv
        rw [Nat.add_assoc]
        exact hcell _ _ hv
      · cases hv
    obtain ⟨f, hf⟩ : ∃ f, f = frameOf d := ⟨_, rfl⟩
    have hfl : f.length = q := by rw [hf, frameOf_len, hdz]; have := HQ.out; omega
    have HKc : Hid (∀ W B c', B ≠ none → Rd W B (cb d) → Calls Tryd.prog 34 #[.slice B (q - 6) c'] W fun e W' => ∃ A7 c7, e = .returned (.tuple #[.slice A7 q c7, .int .i64 0]) ∧ New W W' (.slice A7 q c7) f) := fun W B c' hB hrd =>
      (dframe_any W B (q - 6) c' d (by omega) hrd (fun h => absurd h hB) (by omega)).mono fun e W' ⟨v', he, hn⟩ => by
        obtain ⟨A7, c7, rfl, _, _⟩ := own_form hn.own
        rw [← hf, hfl] at he hn
        exact ⟨A7, c7, he, hn⟩
    have HD := Lib.hid hdz
    have HFL := Lib.hid hfl
    have HFq := Lib.hid hzq
    rw [← hf] at HU2
    clear hd hdz hzq hf hfl
    have hqc : (q : Int) ≤ (c : Int) := by omega
    have hq6 : (6 : Int) ≤ (q : Int) := by omega
    have hq0 : (0 : Int) ≤ (q : Int) := by omega
    have e6 : IntKind.i64.wrap ((6 : Int) + (z : Int)) = (q : Int) := by rw [IntWalk.i64_in _ (by omega)]; omega
    have hzl : (z : Int) ≤ (l.length : Int) - 6 := by omega
    have HG : Hid ((l.take q).length = q) := by show _ = _; rw [List.length_take]; omega
    have HRG : Hid (Rd w (some ⟨b, o, none⟩) (cb (l.take q))) := by
      show Rd _ _ _
      rw [cb_take]
      exact HR.out.take q
    generalize l.take q = g at HG HRG HU2
    go_enter Tryd.func31, Tryd.ntmps31
    go_wp2
    go_quiet (fail)
    have HF2 := Lib.hid ((Fr.refl NoBlk w).drewN nq)
    generalize w.drewN nq = w2 at *
    go_wp2_with fail
    all_goals
      refine (HKc.out _ _ _ (by simp) ?_).mono ?_
      · first | exact HB2.out.nofr HF2.out | (rw [HB1.out ‹_›]; exact Rd.none_ _ _)
      rintro e w3 ⟨A7, c7, rfl, hn7⟩
      have HN7 := Lib.hid hn7
      have HF3 := Lib.hid (HF2.out.trans hn7.fr)
      have s1 : ∀ m, (convert 22 9 (.slice A7 q c7)).run Tryd.prog (w3.drewN m) = .ok (.string (bs f)) (w3.drewN m) := fun m => run_str (P := Tryd.prog) _ _ _ 5 Tryd.underlying22 Tryd.underlying5 Tryd.underlying9 A7 c7 f q HFL.out.symm ((by have h := hn7.own; rw [HFL.out] at h; exact Rd.of_own h : Rd w3 A7 (cb f)).nofr ((Fr.refl _ _).drewN m))
      have s2 : ∀ m c', (convert 22 9 (.slice (some ⟨b, o, none⟩) q c')).run Tryd.prog (w3.drewN m) = .ok (.string (bs g)) (w3.drewN m) := fun m c' => run_str (P := Tryd.prog) _ _ _ 5 Tryd.underlying22 Tryd.underlying5 Tryd.underlying9 (some ⟨b, o, none⟩) c' g q HG.out.symm ((HRG.out.nofr HF3.out).nofr ((Fr.refl _ _).drewN m))
      have e7 := bs_toList f
      have e8 := bs_toList g
      clear hn7
      by_cases hfg : f = g
      · have HU3 : Hid (u = (d, q, 0)) := by show _ = _; rw [HU2.out, if_pos hfg]
        subst hfg
        go_wp2_with fail
        go_quiet (fail)
        have HF4 := Lib.hid (HF3.out.drewN nq)
        have HB4 := Lib.hid (HB2.out.nofr HF4.out)
        clear s1 s2
        have HE4 : Hid (((w3.drewN nq).alloc (.cells #[] 5)).ownsRow (w3.drewN nq).heap.size 5 1 (.slice (some ⟨(w3.drewN nq).heap.size, 0, none⟩) 0 0) 0 []) := World.ownsRow_made _ #[] 0 (Nat.le_refl _) (by decide) rfl
        generalize w3.drewN nq = w4 at *
        have HDL : Hid ((cb d).length = q - 6) := by show _ = _; rw [cb_length]; have h1 := HD.out; have h2 := HFq.out; omega
        have HDq : Hid (d.length = q - 6) := by show _ = _; have h1 := HD.out; have h2 := HFq.out; omega
        have hqq : (q - 6 : Nat) ≤ 5000 := by have h2 := HFq.out; omega
        first
        | (go_wp2_with (at_builtin; refine wpList_app rfl (.tmp 48) (.tmp 52) 22 rfl w4.heap.size 5 i0 (.int .u8 0) 1 Tryd.underlying22 hi iz0 iz1 iz2 rfl _ _ _ rfl HE4.out (some ⟨b, o + 6, none⟩) (c - 6) (q - 6) (cb d) rfl HDL.out (HB4.out.alloc _) (cb_one _) (fun h => by cases h) (by unfold maxLen; omega) (by omega) ?c5 ?_)
           case c5 => simp)
        | (go_wp2_with (at_builtin; refine wpList_app rfl (.tmp 48) (.tmp 52) 22 rfl w4.heap.size 5 i0 (.int .u8 0) 1 Tryd.underlying22 hi iz0 iz1 iz2 rfl _ _ _ rfl HE4.out (some ⟨b, o, none⟩) 0 (q - 6) (cb d) rfl HDL.out (by rw [HB1.out ‹_›]; exact Rd.none_ _ _) (cb_one _) (fun h => by cases h) (by unfold maxLen; omega) (by omega) ?c5 ?_)
           case c5 => simp)
        intro v5 w5 ho5 hg5 _ hb5
        have HN5 : Hid (New w w5 v5 d) := by
          refine ⟨?_, (HF4.out.alloc (.cells #[] 5)).grown hg5 (fun k hk hlt => by have := HF4.out.size; simp [Value.ownBlock] at hk; omega)⟩
          rw [HDq.out]
          exact own_base (by simpa using ho5) HF4.out.size
        clear ho5 hg5 hb5
        go_wp2_with fail
        go_ret3
        rw [HU3.out]
        exact ⟨_, rfl, HN5.out⟩
      · have HU3 : Hid (u = ([], 0, 33)) := by show _ = _; rw [HU2.out, if_neg hfg]
        have g2 : (f == g) = false := by rw [beq_eq_false_iff_ne]; exact hfg
        have g3 : decide (f = g) = false := by simpa using hfg
        clear hfg
        go_wp2_with fail
        go_quiet (fail)
        go_wp2_with fail
        go_ret3
        rw [HU3.out]
        exact ⟨_, rfl, new_empty w _ (HF3.out.drewN _)⟩
end Go.Proofs.YtokonhcphhpogaaDoor
