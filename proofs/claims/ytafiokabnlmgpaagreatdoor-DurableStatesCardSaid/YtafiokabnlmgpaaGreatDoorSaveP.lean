/- What Save makes of a disk, reckoned. Plain mathematics. Conditions: the power has no end; there is room. -/
import Derived.Test.YtafiokabnlmgpaaGreatDoorSave
namespace Go.Proofs.YtafiokabnlmgpaaGreatDoor
open Go.RowKit Go.Maps

theorem chunks_count : ∀ l : Bs, 1024 * (chunks l).length ≤ l.length + 1023 := by
  refine chunks_ind _ (by rw [chunks_nil]; simp) fun l h ih => ?_
  rw [chunks_pos h, List.length_cons]
  rw [List.length_drop] at ih
  by_cases h2 : 1024 ≤ l.length
  · omega
  · have e : l.drop 1024 = [] := List.drop_of_length_le (by omega)
    rw [e, chunks_nil]
    simp
    omega
theorem frames_flat (rs : List Bs) : (frames rs).length = rs.flatten.length + 6 * rs.length := by
  induction rs with
  | nil => rfl
  | cons r t ih =>
    rw [frames_cons, List.length_append, frameOf_len, ih, List.flatten_cons, List.length_append, List.length_cons]; omega
/-- a body's frames are little longer than it. -/
theorem pk_small (b : Bs) (h : b.length ≤ 5000) : (pk b).length ≤ 5100 := by
  have h1 := chunks_count b
  have h2 := frames_flat (chunks b)
  rw [chunks_flat] at h2
  have h3 := num_len b.length (by omega)
  unfold pk
  rw [frames_cons, List.length_append, frameOf_len]
  omega
theorem pdel_pset (L : List PF) (k : Bs) (h : PF → PF) (hn : ∀ f, (h f).name = f.name) : pdel (pset L k h) k = pdel L k := by
  unfold pdel pset
  induction L with
  | nil => rfl
  | cons f t ih =>
    by_cases e : f.name = k
    · simp [e, hn, ih]
    · simp [e, ih]
theorem pdel_pins (x : PF) (L : List PF) : pdel (pins x L) x.name = pdel L x.name := by
  induction L with
  | nil => simp [pins, pdel]
  | cons f t ih =>
    unfold pins
    split
    · simp [pdel]
    · unfold pdel at ih ⊢
      rw [List.filter_cons, List.filter_cons, ih]
theorem pdel_none {L : List PF} {k : Bs} (h : pfind L k = none) : pdel L k = L := by
  induction L with
  | nil => rfl
  | cons f t ih =>
    unfold pfind at h
    split at h
    · cases h
    · rename_i e
      unfold pdel at ih ⊢
      rw [List.filter_cons, if_pos (by simp [e]), ih h]
theorem pfind_pdel (L : List PF) (k : Bs) : pfind (pdel L k) k = none := by
  induction L with
  | nil => rfl
  | cons f t ih =>
    unfold pdel at ih ⊢
    rw [List.filter_cons]
    by_cases e : f.name = k
    · rw [if_neg (by simp [e])]; exact ih
    · rw [if_pos (by simp [e])]
      unfold pfind
      rw [if_neg e]
      exact ih
theorem pfind_pins (x : PF) (L : List PF) (h : pfind L x.name = none) : pfind (pins x L) x.name = some x := by
  induction L with
  | nil => simp [pins, pfind]
  | cons f t ih =>
    unfold pfind at h
    split at h
    · cases h
    · rename_i e
      unfold pins
      split
      · simp [pfind]
      · unfold pfind
        rw [if_neg e]
        exact ih h
theorem pfind_pset (L : List PF) (k : Bs) (h : PF → PF) (hn : ∀ f, (h f).name = f.name) : pfind (pset L k h) k = (pfind L k).map h := by
  induction L with
  | nil => rfl
  | cons f t ih =>
    unfold pset at ih ⊢
    rw [List.map_cons]
    by_cases e : f.name = k
    · rw [if_pos e]
      unfold pfind
      rw [if_pos (by rw [hn]; exact e), if_pos e]
      rfl
    · rw [if_neg e]
      unfold pfind
      rw [if_neg e, if_neg e]
      exact ih
theorem draft_nm {n : Bs} (h0 : 1 ≤ n.length) (h1 : n.length ≤ 15) : isNm (draft n) = true ∧ isNm n = true := by
  unfold isNm
  have e : (draft n).length = n.length + 1 := by simp [draft]
  rw [e]
  simp
  omega
/-- Save while the power has no end. -/
theorem psave_on (p : PD) (hl : p.left = -1) (hd : p.down = false) (n b : Bs) (h0 : 1 ≤ n.length) (h1 : n.length ≤ 15) (hlen : (pdel p.files (draft n)).length < 32) (hroom : ptotal (pdel p.files (draft n)) + (pk b).length ≤ p.room) :
    psave p n b = ({ p with files := pins ⟨n, pk b, (pk b).length⟩ (pdel (pdel p.files (draft n)) n) }, 0) := by
  have hsp : ∀ q : PD, q.left = -1 → pspend q = q := fun q hq => by
    unfold pspend
    rw [hq, if_neg (by decide), if_neg (by decide)]
  have hrem : (pRemove p (draft n)).1 = { p with files := pdel p.files (draft n) } ∧ ((pRemove p (draft n)).2 = 0 ∨ (pRemove p (draft n)).2 = 60) := by
    unfold pRemove pChange
    rw [if_neg (by rw [hd]; decide)]
    cases hf : pfind p.files (draft n) with
    | none =>
      dsimp only
      rw [pdel_none hf]
      exact ⟨rfl, .inr rfl⟩
    | some f =>
      dsimp only
      rw [if_neg (by decide), if_neg (by rw [hl]; decide), hsp p hl]
      exact ⟨rfl, .inl rfl⟩
  have hnm := draft_nm h0 h1
  have hfn := pfind_pdel p.files (draft n)
  generalize pdel p.files (draft n) = F at *
  have happ : pAppend { p with files := F } (draft n) (pk b) = ({ p with files := pput F (draft n) (pk b) }, 0) := by
    unfold pAppend
    dsimp only
    rw [if_neg (by rw [hd]; decide), if_neg (by rw [hnm.1]; decide), if_neg (by omega)]
    unfold pspendE
    rw [hsp { p with files := pput F (draft n) (pk b) } hl, if_neg (by dsimp only; rw [hl]; decide)]
  have hput : pfind (pput F (draft n) (pk b)) (draft n) = some ⟨draft n, pk b, 0⟩ := by
    unfold pput
    rw [pfind_pset _ _ (fun g => { g with data := g.data ++ pk b }) (fun _ => rfl), hfn]
    dsimp only
    rw [pfind_pins ⟨draft n, [], 0⟩ F hfn]
    rfl
  have hdel : pdel (pput F (draft n) (pk b)) (draft n) = F := by
    unfold pput
    rw [pdel_pset _ _ (fun g => { g with data := g.data ++ pk b }) (fun _ => rfl), hfn]
    dsimp only
    rw [pdel_pins ⟨draft n, [], 0⟩ F]
    exact pdel_none hfn
  generalize pput F (draft n) (pk b) = G at *
  have hsync : pSync { p with files := G } (draft n) = ({ p with files := pset G (draft n) fun g => { g with last := g.data.length } }, 0) := by
    unfold pSync pChange
    dsimp only
    rw [if_neg (by rw [hd]; decide), hput]
    dsimp only
    rw [if_neg (by decide), if_neg (by rw [hl]; decide), hsp { p with files := G } hl]
  have hfind : pfind (pset G (draft n) fun g => { g with last := g.data.length }) (draft n) = some ⟨draft n, pk b, (pk b).length⟩ := by
    rw [pfind_pset _ _ (fun g => { g with last := g.data.length }) (fun _ => rfl), hput]
    rfl
  have hdel2 : pdel (pset G (draft n) fun g => { g with last := g.data.length }) (draft n) = F := by
    rw [pdel_pset _ _ (fun g => { g with last := g.data.length }) (fun _ => rfl)]; exact hdel
  generalize (pset G (draft n) fun g => { g with last := g.data.length }) = H at *
  have hren : pRename { p with files := H } (draft n) n = ({ p with files := pins ⟨n, pk b, (pk b).length⟩ (pdel F n) }, 0) := by
    unfold pRename pChange
    dsimp only
    rw [if_neg (by rw [hd]; decide), hfind]
    dsimp only
    rw [if_neg (by rw [hnm.2]; decide), if_neg (by rw [hl]; decide), hsp { p with files := H } hl, hdel2]
  unfold psave
  rw [if_neg (by omega), if_neg (fun x => by rcases hrem.2 with h | h <;> omega), hrem.1, happ]
  rw [if_neg (by simp), hsync]
  rw [if_neg (by simp), hren]
end Go.Proofs.YtafiokabnlmgpaaGreatDoor
