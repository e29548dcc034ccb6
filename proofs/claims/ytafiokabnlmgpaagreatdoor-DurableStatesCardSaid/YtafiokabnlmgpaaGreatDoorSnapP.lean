/- Checkpoints' frames: how a body is parted, packed and taken out again. Plain mathematics. Condition: bodies are short. -/
import Derived.Test.YtafiokabnlmgpaaGreatDoorParse
import Derived.Test.YtafiokabnlmgpaaGreatDoorPen
namespace Go.Proofs.YtafiokabnlmgpaaGreatDoor

def chunks (l : Bs) : List Bs := if _h : 0 < l.length then l.take 1024 :: chunks (l.drop 1024) else []
termination_by l.length
decreasing_by simp only [List.length_drop]; omega
theorem chunks_nil : chunks [] = [] := by rw [chunks, dif_neg (by simp)]
theorem chunks_pos {l : Bs} (h : 0 < l.length) : chunks l = l.take 1024 :: chunks (l.drop 1024) := by rw [chunks, dif_pos h]
theorem chunks_ind (P : Bs → Prop) (h0 : P []) (hs : ∀ l : Bs, 0 < l.length → P (l.drop 1024) → P l) : ∀ l, P l := by
  have : ∀ k (l : Bs), l.length ≤ k → P l := by
    intro k
    induction k with
    | zero => intro l hl; obtain rfl : l = [] := List.length_eq_zero_iff.1 (by omega); exact h0
    | succ k ih =>
      intro l hl
      rcases Nat.eq_zero_or_pos l.length with h | h
      · obtain rfl : l = [] := List.length_eq_zero_iff.1 h; exact h0
      · exact hs l h (ih _ (by rw [List.length_drop]; omega))
  exact fun l => this _ l (Nat.le_refl _)
theorem chunks_flat : ∀ l, (chunks l).flatten = l := by
  refine chunks_ind _ (by rw [chunks_nil]; rfl) fun l h ih => ?_
  rw [chunks_pos h, List.flatten_cons, ih, List.take_append_drop]
theorem chunks_le : ∀ l, ∀ r ∈ chunks l, r.length ≤ 1024 ∧ 0 < r.length := by
  refine chunks_ind _ (by rw [chunks_nil]; intro r h; cases h) fun l h ih => ?_
  rw [chunks_pos h]
  intro r hr
  rcases List.mem_cons.1 hr with rfl | hr
  · rw [List.length_take]; omega
  · exact ih r hr
theorem chunks_frames_len : ∀ l, (frames (chunks l)).length ≤ 7 * l.length := by
  refine chunks_ind _ (by rw [chunks_nil]; exact Nat.le_refl _) fun l h ih => ?_
  rw [chunks_pos h, frames_cons, List.length_append, frameOf_len, List.length_take]
  rw [List.length_drop] at ih
  omega
/-- a part more. -/
theorem chunks_take : ∀ l : Bs, ∀ k, k < l.length → k % 1024 = 0 → (chunks (l.take k)) ++ [(l.drop k).take 1024] = chunks (l.take (k + 1024)) := by
  refine chunks_ind _ (fun k h => by simp at h) fun l h ih k hk hm => ?_
  by_cases h0 : k = 0
  · subst h0
    rw [List.take_zero, chunks_nil, List.nil_append, List.drop_zero, Nat.zero_add, chunks_pos (by rw [List.length_take]; omega), List.take_take, Nat.min_self]
    rw [List.drop_of_length_le (by rw [List.length_take]; omega), chunks_nil]
  · have hk1 : 1024 ≤ k := by omega
    have e1 : (l.take k).take 1024 = l.take 1024 := by rw [List.take_take, Nat.min_eq_left hk1]
    have e2 : (l.take k).drop 1024 = (l.drop 1024).take (k - 1024) := by rw [List.drop_take]
    have e3 : (l.take (k + 1024)).take 1024 = l.take 1024 := by rw [List.take_take, Nat.min_eq_left (by omega)]
    have e4 : (l.take (k + 1024)).drop 1024 = (l.drop 1024).take (k - 1024 + 1024) := by rw [List.drop_take, show k + 1024 - 1024 = k - 1024 + 1024 by omega]
    rw [chunks_pos (l := l.take k) (by rw [List.length_take]; omega), chunks_pos (l := l.take (k + 1024)) (by rw [List.length_take]; omega), e1, e2, e3, e4, List.cons_append]
    rw [← ih (k - 1024) (by rw [List.length_drop]; omega) (by omega), List.drop_drop]
    rw [show 1024 + (k - 1024) = k by omega]
def pk (b : Bs) : Bs := frames (num b.length :: chunks b)
def unpk (d : Bs) : Bs × Nat := if (parse d).2 = d.length ∧ pk (parse d).1.tail.flatten = d then ((parse d).1.tail.flatten, 0) else ([], 61)
theorem pk_len (b : Bs) (h : b.length ≤ 1000000000) : (pk b).length ≤ 7 * b.length + 16 := by
  have h1 := chunks_frames_len b
  have h2 := num_len b.length (by omega)
  unfold pk
  rw [frames_cons, List.length_append, frameOf_len]
  omega
theorem pk_pos (b : Bs) : 6 ≤ (pk b).length := by
  unfold pk
  rw [frames_cons, List.length_append, frameOf_len]
  omega
theorem pk_short (b : Bs) (h : b.length ≤ 1000000000) : ∀ r ∈ num b.length :: chunks b, r.length ≤ 4096 := by
  intro r hr
  rcases List.mem_cons.1 hr with rfl | hr
  · have := num_len b.length (by omega); omega
  · have := (chunks_le b r hr).1; omega
theorem parse_pk (b : Bs) (h : b.length ≤ 1000000000) : parse (pk b) = (num b.length :: chunks b, (pk b).length) := parse_frames _ (pk_short b h)
theorem unpk_pk (b : Bs) (h : b.length ≤ 1000000000) : unpk (pk b) = (b, 0) := by
  have e : (parse (pk b)).1.tail.flatten = b := by rw [parse_pk b h]; exact chunks_flat b
  unfold unpk
  rw [e, parse_pk b h, if_pos ⟨rfl, rfl⟩]
theorem unpk_ok {d : Bs} (h : (unpk d).2 = 0) : pk (unpk d).1 = d := by
  unfold unpk at h ⊢
  split
  · rename_i h1; exact h1.2
  · rename_i h1; rw [if_neg h1] at h; cases h
theorem unpk_iff (d b : Bs) (h : b.length ≤ 1000000000) : unpk d = (b, 0) ↔ d = pk b := by
  constructor
  · intro e
    have := unpk_ok (d := d) (by rw [e])
    rw [e] at this
    exact this.symm
  · rintro rfl; exact unpk_pk b h
theorem unpk_no (d : Bs) (h : (unpk d).2 ≠ 0) : unpk d = ([], 61) := by
  unfold unpk at h ⊢
  split
  · rename_i h1; rw [if_pos h1] at h; exact absurd rfl h
  · rfl
theorem unpk_len (d : Bs) : (unpk d).1.length ≤ d.length := by
  by_cases h : (unpk d).2 = 0
  · have e := unpk_ok h
    have : ∀ b : Bs, b.length ≤ (pk b).length := by
      intro b
      have h1 : ∀ l : Bs, l.length ≤ (frames (chunks l)).length := by
        refine chunks_ind _ (Nat.zero_le _) fun l h ih => ?_
        rw [chunks_pos h, frames_cons, List.length_append, frameOf_len, List.length_take]
        rw [List.length_drop] at ih
        omega
      have := h1 b
      unfold pk
      rw [frames_cons, List.length_append]
      omega
    have := this (unpk d).1
    rw [e] at this
    exact this
  · rw [unpk_no d h]; exact Nat.zero_le _
theorem pk_inj {a b : Bs} (ha : a.length ≤ 1000000000) (hb : b.length ≤ 1000000000) (h : pk a = pk b) : a = b := by
  have h1 := unpk_pk a ha
  rw [h, unpk_pk b hb] at h1
  exact (congrArg Prod.fst h1).symm
theorem num_inj : ∀ a b : Nat, num a = num b → a = b := by
  intro a
  induction a using Nat.strongRecOn with
  | ind a ih =>
    intro b h
    have hu : ∀ n, n < 256 → (UInt8.ofNat n).toNat = n := fun n hn => by rw [UInt8.toNat_ofNat']; omega
    by_cases h1 : a < 128
    · by_cases h2 : b < 128
      · rw [num_lt h1, num_lt h2] at h
        injection h with h
        have := congrArg UInt8.toNat h
        rw [hu _ (by omega), hu _ (by omega)] at this
        exact this
      · rw [num_lt h1, num_ge h2] at h
        injection h with h
        have := congrArg UInt8.toNat h
        rw [hu _ (by omega), hu _ (by omega)] at this
        omega
    · by_cases h2 : b < 128
      · rw [num_ge h1, num_lt h2] at h
        injection h with h
        have := congrArg UInt8.toNat h
        rw [hu _ (by omega), hu _ (by omega)] at this
        omega
      · rw [num_ge h1, num_ge h2] at h
        injection h with h h'
        have e := congrArg UInt8.toNat h
        rw [hu _ (by omega), hu _ (by omega)] at e
        have := ih (a / 128) (by omega) (b / 128) h'
        omega
theorem flat_short : ∀ (rs : List Bs), (∀ r ∈ rs, 0 < r.length) → ∀ j, (rs.take j).flatten.length = rs.flatten.length → rs.length ≤ j
  | [], _, _, _ => Nat.zero_le _
  | r :: t, h, 0, e => by
    have := h r (List.mem_cons_self ..)
    rw [List.take_zero, List.flatten_cons, List.length_append] at e
    simp at e
    omega
  | r :: t, h, j + 1, e => by
    rw [List.take_succ_cons, List.flatten_cons, List.flatten_cons, List.length_append, List.length_append] at e
    have := flat_short t (fun x hx => h x (List.mem_cons_of_mem _ hx)) j (by omega)
    rw [List.length_cons]; omega
theorem unfr_len (l : Bs) (h : (unfr l).2.2 = 0) : (unfr l).1.length + 6 ≤ (unfr l).2.1 := by
  unfold unfr at h ⊢
  split
  · rename_i h1; rw [if_pos h1] at h; cases h
  rename_i h1
  rw [if_neg h1] at h
  split
  · rename_i h2; rw [if_pos h2] at h; cases h
  rename_i h2
  rw [if_neg h2] at h
  split
  · rename_i h3; rw [if_pos h3] at h; cases h
  rename_i h3
  rw [if_neg h3] at h
  split
  · dsimp only
    rw [List.length_take]
    omega
  · rename_i h4; rw [if_neg h4] at h; cases h
theorem unpk_fst {d : Bs} (h : (unpk d).2 = 0) : (unpk d).1 = (parse d).1.tail.flatten := by
  unfold unpk at h ⊢
  split
  · rfl
  · rename_i h1; rw [if_neg h1] at h; cases h
theorem flat_take (rs : List Bs) (j : Nat) : (rs.take j).flatten.length ≤ rs.flatten.length := by
  conv => rhs; rw [← List.take_append_drop j rs]
  rw [List.flatten_append, List.length_append]; omega
/-- no beginning of a body's bytes is a body's. -/
theorem unpk_cut (b : Bs) (h : b.length ≤ 1000000000) (k : Nat) (hk : k < (pk b).length) : unpk ((pk b).take k) = ([], 61) := by
  refine unpk_no _ fun h0 => ?_
  have e := unpk_ok h0
  have e1 := unpk_fst h0
  obtain ⟨j, hj, hp, hl2, _⟩ := parse_take (num b.length :: chunks b) (pk_short b h) k
  rw [show (pk b).take k = (frames (num b.length :: chunks b)).take k from rfl] at e e1
  generalize (unpk ((frames (num b.length :: chunks b)).take k)).1 = b' at *
  rw [hp] at e1
  dsimp only at e1
  have hb' : b'.length ≤ 1000000000 := by
    rw [e1]
    cases j with
    | zero => exact Nat.zero_le _
    | succ j =>
      rw [List.take_succ_cons, List.tail_cons]
      have := flat_take (chunks b) j
      rw [chunks_flat] at this
      omega
  have hp' := parse_pk b' hb'
  rw [e, hp] at hp'
  have h1 := congrArg Prod.fst hp'
  have h2 := congrArg Prod.snd hp'
  dsimp only at h1 h2
  cases j with
  | zero => cases h1
  | succ j =>
    rw [List.take_succ_cons] at h1
    injection h1 with h3 h4
    have h5 := num_inj _ _ h3
    have h6 := congrArg List.flatten h4
    rw [chunks_flat] at h6
    have h7 := flat_short (chunks b) (fun r hr => (chunks_le b r hr).2) j (by rw [h6, chunks_flat]; exact h5.symm)
    rw [List.take_of_length_le (show (num b.length :: chunks b).length ≤ j + 1 by rw [List.length_cons]; omega)] at h2
    have h8 : (frames (num b.length :: chunks b)).length = (pk b).length := rfl
    have h9 : ((frames (num b.length :: chunks b)).take k).length ≤ k := List.length_take_le _ _
    omega
end Go.Proofs.YtafiokabnlmgpaaGreatDoor
