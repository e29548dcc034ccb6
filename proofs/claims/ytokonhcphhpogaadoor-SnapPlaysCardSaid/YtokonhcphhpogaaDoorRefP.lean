/- What the document's own reading of frames keeps from part to part. Plain mathematics. Condition: lengths. -/
import Derived.Test.YtokonhcphhpogaaDoorEyeP
import Derived.Test.YtokonhcphhpogaaDoorSnapP
namespace Go.Proofs.YtokonhcphhpogaaDoor

theorem chunks_split : ∀ (cs : List Bs) (b c : Bs) (rest : List Bs), chunks b = cs ++ c :: rest → c.length = min (b.length - cs.flatten.length) 1024
  | [], b, c, rest, h => by
    have hb : 0 < b.length := by
      rcases Nat.eq_zero_or_pos b.length with e | e
      · obtain rfl : b = [] := List.length_eq_zero_iff.1 e
        rw [chunks_nil] at h; cases h
      · exact e
    rw [chunks_pos hb] at h
    injection h with h _
    rw [← h, List.length_take]
    simp
    omega
  | c0 :: cs, b, c, rest, h => by
    have hb : 0 < b.length := by
      rcases Nat.eq_zero_or_pos b.length with e | e
      · obtain rfl : b = [] := List.length_eq_zero_iff.1 e
        rw [chunks_nil] at h; cases h
      · exact e
    rw [chunks_pos hb, List.cons_append] at h
    injection h with h0 h1
    have ih := chunks_split cs (b.drop 1024) c rest h1
    have hd : 0 < (b.drop 1024).length := by
      rcases Nat.eq_zero_or_pos (b.drop 1024).length with e | e
      · have e2 := List.length_eq_zero_iff.1 e
        rw [e2, chunks_nil] at h1
        cases cs <;> cases h1
      · exact e
    rw [List.length_drop] at hd ih
    have e : b.length - 1024 - cs.flatten.length = b.length - (min 1024 b.length + cs.flatten.length) := by omega
    rw [ih, List.flatten_cons, List.length_append, ← h0, List.length_take, e]
theorem parse_fst_nil {l : Bs} (h : (parse l).1 = []) : parse l = ([], 0) := by
  by_cases hu : (unfr l).2.2 = 0
  · rw [parse_ok l hu] at h; cases h
  · exact parse_bad l hu
/-- how far the document has read: all of the parts cs lie ahead of at. -/
structure RAt (d : Bs) (n at_ : Nat) (cs : List Bs) : Prop where
  rd : parse d = (num n :: cs ++ (parse (d.drop at_)).1, at_ + (parse (d.drop at_)).2)
  hd : d.take at_ = frames (num n :: cs)
  ch : chunks cs.flatten = cs
  full : cs.flatten.length < n → cs.flatten.length % 1024 = 0
  len : cs.flatten.length ≤ n
  le : at_ ≤ d.length
theorem unfr_head (l : Bs) (h : (unfr l).2.2 = 0) : frameOf (unfr l).1 = l.take (unfr l).2.1 := by
  unfold unfr at h ⊢
  split
  · rename_i h1; rw [if_pos h1] at h; cases h
  rename_i h1
  rw [if_neg h1] at h
  split
  · rename_i h2; rw [if_pos h2] at h; cases h
  rename_i h2
  rw [if_neg h2] at h
  split
  · rename_i h3; rw [if_pos h3] at h; cases h
  rename_i h3
  rw [if_neg h3] at h
  split
  · rename_i h4; exact h4
  · rename_i h4; rw [if_neg h4] at h; cases h
theorem unfr_bad (l : Bs) (h : (unfr l).2.2 ≠ 0) : (unfr l).1 = [] := by
  unfold unfr at h ⊢
  split
  · rfl
  rename_i h1
  rw [if_neg h1] at h
  split
  · rfl
  rename_i h2
  rw [if_neg h2] at h
  split
  · rfl
  rename_i h3
  rw [if_neg h3] at h
  split
  · rename_i h4; rw [if_pos h4] at h; exact absurd rfl h
  · rfl
theorem RAt.start {d : Bs} {n s : Nat} (hu : unfr d = (num n, s, 0)) : RAt d n s [] := by
  have h1 := unfr_ok d (by rw [hu])
  have h2 := parse_ok d (by rw [hu])
  have h3 := unfr_head d (by rw [hu])
  rw [hu] at h1 h2 h3
  dsimp only at h1 h2 h3
  exact ⟨h2, by rw [frames_one]; exact h3.symm, by rw [List.flatten_nil, chunks_nil], fun _ => rfl, Nat.zero_le _, h1.2.1⟩
theorem RAt.next {d : Bs} {n at_ : Nat} {cs : List Bs} (h : RAt d n at_ cs) {ub : Bs} {us : Nat} (hu : unfr (d.drop at_) = (ub, us, 0)) (hn : cs.flatten.length < n) (hl : ub.length = min (n - cs.flatten.length) 1024) : RAt d n (at_ + us) (cs ++ [ub]) := by
  have h1 := unfr_ok (d.drop at_) (by rw [hu])
  have h2 := parse_ok (d.drop at_) (by rw [hu])
  have h3 := unfr_head (d.drop at_) (by rw [hu])
  rw [hu, List.length_drop] at h1
  rw [hu] at h2 h3
  dsimp only at h1 h2 h3
  have hle := h.le
  have ef : (cs ++ [ub]).flatten = cs.flatten ++ ub := by simp
  refine ⟨?_, ?_, ?_, fun h4 => ?_, ?_, by omega⟩
  · rw [h.rd, h2, List.drop_drop]
    show (num n :: (cs ++ (ub :: _)), at_ + (us + _)) = (num n :: ((cs ++ [ub]) ++ _), at_ + us + _)
    rw [List.append_assoc, Nat.add_assoc]
    rfl
  · rw [List.take_add, h.hd, ← h3, ← List.cons_append, frames_append, frames_one]
  · have h5 := chunks_take (cs.flatten ++ ub) cs.flatten.length (by rw [List.length_append]; omega) (h.full hn)
    rw [List.take_left, List.drop_left, List.take_of_length_le (show ub.length ≤ 1024 by omega), h.ch, List.take_of_length_le (by rw [List.length_append]; omega)] at h5
    rw [ef]
    exact h5.symm
  · rw [ef, List.length_append] at h4 ⊢
    have := h.full hn
    omega
  · rw [ef, List.length_append]; omega
/-- what d is, if it is a body's. -/
theorem RAt.body {d : Bs} {n at_ : Nat} {cs : List Bs} (h : RAt d n at_ cs) (hd : d.length ≤ 100000000) (h0 : (unpk d).2 = 0) : ∃ b, b.length = n ∧ chunks b = cs ++ (parse (d.drop at_)).1 ∧ at_ + (parse (d.drop at_)).2 = d.length := by
  have e := unpk_ok h0
  have hl := unpk_len d
  generalize (unpk d).1 = b at *
  have hp := parse_pk b (by omega)
  rw [e, h.rd] at hp
  have h1 := congrArg Prod.fst hp
  have h2 := congrArg Prod.snd hp
  dsimp only at h1 h2
  rw [List.cons_append] at h1
  injection h1 with h3 h4
  exact ⟨b, (num_inj _ _ h3).symm, h4.symm, h2⟩
theorem RAt.fail {d : Bs} {n at_ : Nat} {cs : List Bs} (h : RAt d n at_ cs) (hd : d.length ≤ 100000000) (hn : cs.flatten.length < n) (hb : (unfr (d.drop at_)).2.2 ≠ 0 ∨ (unfr (d.drop at_)).1.length ≠ min (n - cs.flatten.length) 1024) : unpk d = ([], 61) := by
  refine unpk_no _ fun h0 => ?_
  obtain ⟨b, hbn, hc, _⟩ := h.body hd h0
  by_cases hu : (unfr (d.drop at_)).2.2 = 0
  · rw [parse_ok _ hu] at hc
    have := chunks_split cs b _ _ hc
    rcases hb with hb | hb
    · exact hb hu
    · rw [hbn] at this
      exact hb this
  · rw [parse_bad _ hu, List.append_nil] at hc
    have := chunks_flat b
    rw [hc] at this
    rw [this, hbn] at hn
    omega
theorem RAt.done {d : Bs} {n : Nat} {cs : List Bs} (h : RAt d n d.length cs) (hd : d.length ≤ 100000000) (hn : ¬ cs.flatten.length < n) : unpk d = (cs.flatten, 0) := by
  have e : d = pk cs.flatten := by
    have h1 := h.hd
    rw [List.take_length] at h1
    rw [h1]
    unfold pk
    rw [h.ch, show cs.flatten.length = n by have := h.len; omega]
  have hl : cs.flatten.length ≤ d.length := by
    have h1 : ∀ rs : List Bs, rs.flatten.length ≤ (frames rs).length := by
      intro rs
      induction rs with
      | nil => exact Nat.le_refl _
      | cons r t ih => rw [frames_cons, List.flatten_cons, List.length_append, List.length_append, frameOf_len]; omega
    have h2 := h1 cs
    have h3 := congrArg List.length h.hd
    rw [List.take_length, frames_cons, List.length_append] at h3
    omega
  conv => lhs; rw [e]
  exact unpk_pk _ (by omega)
theorem RAt.more {d : Bs} {n at_ : Nat} {cs : List Bs} (h : RAt d n at_ cs) (hd : d.length ≤ 100000000) (hn : ¬ cs.flatten.length < n) (ha : at_ ≠ d.length) : unpk d = ([], 61) := by
  refine unpk_no _ fun h0 => ?_
  obtain ⟨b, hbn, hc, ht⟩ := h.body hd h0
  have hfl := chunks_flat b
  rw [hc, List.flatten_append] at hfl
  have h1 := congrArg List.length hfl
  rw [List.length_append, hbn] at h1
  have h2 : (parse (d.drop at_)).1 = [] := by
    cases hp : (parse (d.drop at_)).1 with
    | nil => rfl
    | cons r t =>
      exfalso
      have h3 := (chunks_le b r (by rw [hc, hp]; simp)).2
      rw [hp, List.flatten_cons, List.length_append] at h1
      omega
  rw [parse_fst_nil h2] at ht
  exact ha ht
theorem start_fail (d : Bs) (hd : d.length ≤ 100000000) (h : (unfr d).2.2 ≠ 0 ∨ (rdNum (unfr d).1).2.2 ≠ 0 ∨ (rdNum (unfr d).1).2.1 ≠ (unfr d).1.length ∨ d.length < (rdNum (unfr d).1).1) : unpk d = ([], 61) := by
  refine unpk_no _ fun h0 => ?_
  have e := unpk_ok h0
  have hl := unpk_len d
  generalize (unpk d).1 = b at *
  have hu : unfr d = (num b.length, 6 + (num b.length).length, 0) := by
    rw [← e]
    unfold pk
    rw [frames_cons]
    exact unfr_frame _ _ (by have := num_len b.length (by omega); omega)
  rw [hu] at h
  dsimp only at h
  rw [rdNum_num _ (by omega)] at h
  dsimp only at h
  rcases h with h | h | h | h
  · exact h rfl
  · exact h rfl
  · exact h rfl
  · omega
end Go.Proofs.YtokonhcphhpogaaDoor
