/- The long division by which the document reckons the check sum, over lists of bits: it comes to Crc.crc. -/
import Derived.Test.YtdpjmkgjjhcgeaaDoorFram
namespace Go.Proofs.YtdpjmkgjjhcgeaaDoor

def powers : List Nat := [32, 28, 27, 26, 25, 23, 22, 20, 19, 18, 14, 13, 11, 10, 9, 8, 6, 0]
def tog (l : List Bool) (p : Nat) : List Bool := l.set p (!(l.getD p false))
def togs (l : List Bool) (i : Nat) (ps : List Nat) : List Bool := ps.foldl (fun l p => tog l (i + 32 - p)) l

theorem tog_len (l : List Bool) (p : Nat) : (tog l p).length = l.length := by simp [tog]
theorem togs_len (i : Nat) (ps : List Nat) : ∀ l, (togs l i ps).length = l.length := by
  induction ps with
  | nil => intro l; rfl
  | cons p t ih => intro l; show (togs (tog l _) i t).length = _; rw [ih, tog_len]
theorem tog_get (l : List Bool) (p j : Nat) (hp : p < l.length) : (tog l p).getD j false = (l.getD j false ^^ decide (p = j)) := by
  unfold tog
  by_cases h : p = j
  · subst h
    rw [List.getD_eq_getElem?_getD, List.getElem?_set_self hp]
    simp
  · rw [List.getD_eq_getElem?_getD, List.getElem?_set_ne h, ← List.getD_eq_getElem?_getD]
    simp [h]
theorem togs_get (i j : Nat) (ps : List Nat) : ∀ l : List Bool, i + 32 < l.length → ps.Nodup → (∀ p ∈ ps, p ≤ 32) →
    (togs l i ps).getD j false = (l.getD j false ^^ decide (∃ p ∈ ps, i + 32 - p = j)) := by
  induction ps with
  | nil => intro l _ _ _; simp [togs]
  | cons p t ih =>
    intro l hl hn h32
    have hp := h32 p (List.mem_cons_self ..)
    show (togs (tog l (i + 32 - p)) i t).getD j false = _
    rw [ih _ (by rw [tog_len]; exact hl) (List.nodup_cons.1 hn).2 (fun q hq => h32 q (List.mem_cons_of_mem _ hq)), tog_get _ _ _ (by omega)]
    by_cases h1 : i + 32 - p = j
    · have h2 : ¬ ∃ q ∈ t, i + 32 - q = j := by
        rintro ⟨q, hq, e⟩
        have := h32 q (List.mem_cons_of_mem _ hq)
        have : q = p := by omega
        subst this
        exact (List.nodup_cons.1 hn).1 hq
      have h3 : ∃ q ∈ p :: t, i + 32 - q = j := ⟨p, List.mem_cons_self .., h1⟩
      rw [decide_eq_true h1, decide_eq_false h2, decide_eq_true h3]; simp
    · have h3 : (∃ q ∈ p :: t, i + 32 - q = j) ↔ ∃ q ∈ t, i + 32 - q = j := by
        constructor
        · rintro ⟨q, hq, e⟩
          rcases List.mem_cons.1 hq with rfl | hq
          · exact absurd e h1
          · exact ⟨q, hq, e⟩
        · rintro ⟨q, hq, e⟩; exact ⟨q, List.mem_cons_of_mem _ hq, e⟩
      rw [decide_eq_false h1, show decide (∃ q ∈ p :: t, i + 32 - q = j) = decide (∃ q ∈ t, i + 32 - q = j) from decide_eq_decide.2 h3]; simp

theorem powers_bit (d : Nat) (h0 : 0 < d) : decide (∃ p ∈ powers, 32 - p = d) = Crc.poly.getLsbD (d - 1) := by
  by_cases h : d ≤ 32
  · have key : ∀ d : Nat, d < 33 → 0 < d → decide (∃ p ∈ powers, 32 - p = d) = Crc.poly.getLsbD (d - 1) := by decide +kernel
    exact key d (by omega) h0
  · rw [decide_eq_false, BitVec.getLsbD_of_ge _ _ (by omega)]
    rintro ⟨p, _, e⟩
    omega

/-- the row of bits behind i rounds: from place i on it is the message, turned by the register. -/
structure DivSt (M : List Bool) (r : BitVec 32) (i : Nat) (L : List Bool) : Prop where
  len : L.length = M.length
  get : ∀ j, i ≤ j → j < M.length → L.getD j false = (M.getD j false ^^ r.getLsbD (j - i))

theorem stb_get (r : BitVec 32) (b : Bool) (k : Nat) : (Crc.stb r b).getLsbD k = (r.getLsbD (k + 1) ^^ ((r.getLsbD 0 ^^ b) && Crc.poly.getLsbD k)) := by
  unfold Crc.stb Crc.stp
  rw [BitVec.getLsbD_xor, BitVec.getLsbD_ushiftRight, BitVec.getLsbD_xor]
  have h1 : (if b then 1#32 else 0#32).getLsbD (1 + k) = false := by
    cases b
    · simp
    · simp [BitVec.getLsbD_one]
  have h0 : (r ^^^ (if b then 1#32 else 0#32)).getLsbD 0 = (r.getLsbD 0 ^^ b) := by
    rw [BitVec.getLsbD_xor]
    cases b <;> simp
  rw [h1, h0, Nat.add_comm 1 k]
  cases (r.getLsbD 0 ^^ b) <;> simp

theorem DivSt.off {M L : List Bool} {r : BitVec 32} {i : Nat} (h : DivSt M r i L) (hi : i < M.length) (hb : L.getD i false = false) : DivSt M (Crc.stb r (M.getD i false)) (i + 1) L where
  len := h.len
  get j h1 h2 := by
    have h0 := h.get i (Nat.le_refl _) hi
    rw [hb, Nat.sub_self] at h0
    rw [h.get j (by omega) h2, stb_get, show j - (i + 1) + 1 = j - i by omega, Bool.xor_comm (r.getLsbD 0), ← h0]
    simp
theorem DivSt.on {M L : List Bool} {r : BitVec 32} {i : Nat} (h : DivSt M r i L) (hi : i + 32 < M.length) (hb : L.getD i false = true) : DivSt M (Crc.stb r (M.getD i false)) (i + 1) (togs L i powers) where
  len := by rw [togs_len, h.len]
  get j h1 h2 := by
    have h0 := h.get i (Nat.le_refl _) (by omega)
    rw [hb, Nat.sub_self] at h0
    have hp := powers_bit (j - i) (by omega)
    have he : decide (∃ p ∈ powers, i + 32 - p = j) = decide (∃ p ∈ powers, 32 - p = j - i) := by
      apply decide_eq_decide.2
      have h32 : ∀ p ∈ powers, p ≤ 32 := by decide
      constructor
      · rintro ⟨p, hp, e⟩; have := h32 p hp; exact ⟨p, hp, by omega⟩
      · rintro ⟨p, hp, e⟩; have := h32 p hp; exact ⟨p, hp, by omega⟩
    rw [togs_get i j powers L (by rw [h.len]; exact hi) (by decide) (by decide), he, hp, h.get j (by omega) h2, stb_get, show j - (i + 1) + 1 = j - i by omega, show j - (i + 1) = j - i - 1 by omega, Bool.xor_comm (r.getLsbD 0), ← h0]
    simp

/-- what stands behind the message at the end. -/
theorem div_end (l : List UInt8) (L : List Bool) (h : DivSt (Crc.bitsOf l ++ List.replicate 32 false) ((Crc.bitsOf l).foldl Crc.stb 0xffffffff#32) (8 * l.length) L) (k : Nat) (hk : k < 32) :
    (!(L.getD (8 * l.length + k) false)) = (Crc.crc l).getLsbD k := by
  have hg := h.get (8 * l.length + k) (by omega) (by rw [List.length_append, bitsOf_len, List.length_replicate]; omega)
  rw [hg, List.getD_eq_getElem?_getD, List.getElem?_append_right (by rw [bitsOf_len]; omega), bitsOf_len, show 8 * l.length + k - 8 * l.length = k by omega]
  unfold Crc.crc
  rw [Crc.foldl_byt, BitVec.getLsbD_not]
  have hz : ((List.replicate 32 false)[k]?).getD false = false := by rw [List.getElem?_replicate, if_pos hk]; rfl
  rw [hz, Bool.false_xor, decide_eq_true hk, Bool.true_and]
end Go.Proofs.YtdpjmkgjjhcgeaaDoor
