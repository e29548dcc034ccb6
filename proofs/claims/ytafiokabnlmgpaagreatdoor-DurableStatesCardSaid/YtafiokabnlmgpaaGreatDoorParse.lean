/- Bytes read as frames one behind the other; names of parts. Plain mathematics. No condition but that records are no longer than a frame takes. -/
import Derived.Test.YtafiokabnlmgpaaGreatDoorFram
import Derived.Test.YtafiokabnlmgpaaGreatDoorPure2
namespace Go.Proofs.YtafiokabnlmgpaaGreatDoor

/-- the records with which bytes begin, and how many bytes their frames have. -/
def parse (l : Bs) : List Bs × Nat :=
  if _h : 0 < l.length ∧ (unfr l).2.2 = 0 ∧ 0 < (unfr l).2.1 then
    ((unfr l).1 :: (parse (l.drop (unfr l).2.1)).1, (unfr l).2.1 + (parse (l.drop (unfr l).2.1)).2)
  else ([], 0)
termination_by l.length
decreasing_by all_goals (simp only [List.length_drop]; omega)
theorem unfr_ok (l : Bs) (h : (unfr l).2.2 = 0) : 6 ≤ (unfr l).2.1 ∧ (unfr l).2.1 ≤ l.length ∧ (unfr l).1.length ≤ 4096 := by
  unfold unfr at h ⊢
  split
  · rename_i h1; rw [if_pos h1] at h; cases h
  rename_i h1
  rw [if_neg h1] at h
  split
  · rename_i h2; rw [if_pos h2] at h; cases h
  rename_i h2
  rw [if_neg h2] at h
  split
  · rename_i h3; rw [if_pos h3] at h; cases h
  rename_i h3
  rw [if_neg h3] at h
  split
  · refine ⟨by dsimp only; omega, by dsimp only; omega, ?_⟩
    dsimp only
    rw [List.length_take]; omega
  · rename_i h4; rw [if_neg h4] at h; cases h
theorem parse_nil : parse [] = ([], 0) := by rw [parse]; rw [dif_neg (by simp)]
theorem parse_bad (l : Bs) (h : (unfr l).2.2 ≠ 0) : parse l = ([], 0) := by rw [parse, dif_neg (fun x => h x.2.1)]
theorem parse_ok (l : Bs) (h : (unfr l).2.2 = 0) : parse l = ((unfr l).1 :: (parse (l.drop (unfr l).2.1)).1, (unfr l).2.1 + (parse (l.drop (unfr l).2.1)).2) := by
  have h1 := unfr_ok l h
  rw [parse, dif_pos ⟨by omega, h, by omega⟩]
theorem parse_le (k : Nat) : ∀ l : Bs, l.length ≤ k → (parse l).2 ≤ l.length ∧ (parse l).1.length ≤ l.length ∧ ∀ r ∈ (parse l).1, r.length ≤ 4096 := by
  induction k with
  | zero =>
    intro l hl
    obtain rfl : l = [] := List.length_eq_zero_iff.1 (by omega)
    rw [parse_nil]
    exact ⟨Nat.le_refl _, Nat.le_refl _, fun _ h => by cases h⟩
  | succ k ih =>
    intro l hl
    by_cases h : (unfr l).2.2 = 0
    · have h1 := unfr_ok l h
      rw [parse_ok l h]
      have h2 := ih (l.drop (unfr l).2.1) (by rw [List.length_drop]; omega)
      rw [List.length_drop] at h2
      refine ⟨by dsimp only; omega, by rw [List.length_cons]; omega, fun r hr => ?_⟩
      rcases List.mem_cons.1 hr with rfl | hr
      · exact h1.2.2
      · exact h2.2.2 r hr
    · rw [parse_bad l h]
      exact ⟨Nat.zero_le _, Nat.zero_le _, fun _ h => by cases h⟩
def frames (rs : List Bs) : Bs := rs.flatMap frameOf
theorem frames_cons (r : Bs) (t : List Bs) : frames (r :: t) = frameOf r ++ frames t := rfl
theorem frames_append (a b : List Bs) : frames (a ++ b) = frames a ++ frames b := List.flatMap_append ..
theorem frames_one (r : Bs) : frames [r] = frameOf r := by simp [frames]
theorem frames_len (rs : List Bs) : 6 * rs.length ≤ (frames rs).length := by
  induction rs with
  | nil => exact Nat.zero_le _
  | cons r t ih =>
    rw [frames_cons, List.length_append, frameOf_len, List.length_cons]; omega
/-- frames that were cut off anywhere: those that are whole are read. -/
theorem parse_take (rs : List Bs) (h : ∀ r ∈ rs, r.length ≤ 4096) (k : Nat) : ∃ j, j ≤ rs.length ∧ parse ((frames rs).take k) = (rs.take j, (frames (rs.take j)).length) ∧ (frames (rs.take j)).length ≤ k ∧ (∀ i, i ≤ rs.length → (frames (rs.take i)).length ≤ k → i ≤ j) := by
  induction rs generalizing k with
  | nil =>
    refine ⟨0, Nat.le_refl _, ?_, Nat.zero_le _, fun i hi _ => hi⟩
    rw [show (frames ([] : List Bs)).take k = [] from by simp [frames]]
    exact parse_nil
  | cons r t ih =>
    have hr := h r (List.mem_cons_self ..)
    by_cases hk : k < 6 + r.length
    · refine ⟨0, Nat.zero_le _, ?_, Nat.zero_le _, fun i hi hl => ?_⟩
      · have e : (frames (r :: t)).take k = (frameOf r).take k := by
          rw [frames_cons, List.take_append_of_le_length (by rw [frameOf_len]; omega)]
        rw [e]
        exact parse_bad _ (by rw [unfr_cut r hr k hk]; decide)
      · cases i with
        | zero => exact Nat.le_refl _
        | succ i =>
          rw [List.take_succ_cons, frames_cons, List.length_append, frameOf_len] at hl
          omega
    · obtain ⟨j, hj, hp, hl, hm⟩ := ih (fun x hx => h x (List.mem_cons_of_mem _ hx)) (k - (6 + r.length))
      have e : (frames (r :: t)).take k = frameOf r ++ (frames t).take (k - (6 + r.length)) := by
        rw [frames_cons, List.take_append, frameOf_len, List.take_of_length_le (by rw [frameOf_len]; omega)]
      have hu := unfr_frame r ((frames t).take (k - (6 + r.length))) hr
      have hd : (frameOf r ++ (frames t).take (k - (6 + r.length))).drop (6 + r.length) = (frames t).take (k - (6 + r.length)) := by
        rw [List.drop_append_of_le_length (by rw [frameOf_len]; omega), List.drop_of_length_le (by rw [frameOf_len]; omega), List.nil_append]
      refine ⟨j + 1, by rw [List.length_cons]; omega, ?_, ?_, fun i hi hl2 => ?_⟩
      · rw [e, parse_ok _ (by rw [hu]), hu]
        dsimp only
        rw [hd, hp, List.take_succ_cons, frames_cons, List.length_append, frameOf_len]
      · rw [List.take_succ_cons, frames_cons, List.length_append, frameOf_len]; omega
      · cases i with
        | zero => omega
        | succ i =>
          rw [List.take_succ_cons, frames_cons, List.length_append, frameOf_len] at hl2
          rw [List.length_cons] at hi
          have := hm i (by omega) (by omega)
          omega
theorem parse_frames (rs : List Bs) (h : ∀ r ∈ rs, r.length ≤ 4096) : parse (frames rs) = (rs, (frames rs).length) := by
  obtain ⟨j, hj, hp, hl, hm⟩ := parse_take rs h (frames rs).length
  rw [List.take_of_length_le (Nat.le_refl _)] at hp
  have := hm rs.length (Nat.le_refl _) (by rw [List.take_of_length_le (Nat.le_refl _)]; exact Nat.le_refl _)
  rw [List.take_of_length_le (show rs.length ≤ j by omega)] at hp
  exact hp
/-- the name of a part's file. -/
def lfile (n : Bs) (k : Nat) : Bs := n ++ [UInt8.ofNat (48 + k)]
theorem lfile_len (n : Bs) (k : Nat) : (lfile n k).length = n.length + 1 := by simp [lfile]
theorem lfile_inj {n : Bs} {i j : Nat} (hi : i ≤ 9) (hj : j ≤ 9) (h : lfile n i = lfile n j) : i = j := by
  unfold lfile at h
  have h := List.append_cancel_left h
  injection h with h _
  have h := congrArg UInt8.toNat h
  rw [UInt8.toNat_ofNat', UInt8.toNat_ofNat'] at h
  omega
/-- a log as the document has it, beside its disk. -/
structure PL where
  name : Bs
  size : Nat
  last : Nat
  used : Nat
  waits : Bool
  recs : List Bs
end Go.Proofs.YtafiokabnlmgpaaGreatDoor
