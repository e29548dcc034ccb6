/- What the calls of a log leave alone: files of other names. Plain mathematics. Condition: the disk's power has no end. Any files opened as a log, and opened again: what is read. Plain mathematics. Condition: the disk's power has no end. Any files laid on a disk, and records in memory of the law's own beside it. Conditions: lengths. -/
import Derived.Test.YthnaggmafbhdmaaDoorSz
import Derived.Test.YthnaggmafbhdmaaDoorLParts
import Derived.Test.YthnaggmafbhdmaaDoorDAll
import Derived.Test.YthnaggmafbhdmaaDoorSame4
import Derived.Test.YthnaggmafbhdmaaDoorLaw
import Derived.Test.YthnaggmafbhdmaaDoorOpen2
namespace Go.Proofs.YthnaggmafbhdmaaDoor
open Go.RowKit Go.Maps

/-- a name that is none of a log's files. -/
def NotOf (n k : Bs) : Prop := ∀ i, i ≤ 9 → k ≠ lfile n i
def SameO (p q : PD) (n : Bs) : Prop := ∀ k, NotOf n k → pfind q.files k = pfind p.files k
theorem SameO.refl (p : PD) (n : Bs) : SameO p p n := fun _ _ => rfl
theorem SameO.trans {p q r : PD} {n : Bs} (h : SameO p q n) (h2 : SameO q r n) : SameO p r n := fun k hk => (h2 k hk).trans (h k hk)
theorem same_pset {p : PD} {n : Bs} {i : Nat} (hi : i ≤ 9) (a : PF → PF) (ha : ∀ f, (a f).name = f.name) : SameO p { p with files := pset p.files (lfile n i) a } n := fun k hk => by
  show pfind (pset _ _ _) k = _
  rw [find_set _ _ _ ha]
  cases pfind p.files k with
  | none => rfl
  | some f => rw [Option.map_some, if_neg (hk i hi)]
theorem lsync_same {p : PD} {L : PL} (ho : On' p) (hl : L.last ≤ 9) : SameO p (lsync p L).1 L.name := by
  unfold lsync
  split
  · unfold pSync pChange
    rw [if_neg (by rw [ho.2]; decide)]
    cases pfind p.files (lfile L.name L.last) with
    | none => exact SameO.refl _ _
    | some f =>
      dsimp only
      rw [if_neg (by decide), if_neg (by rw [ho.1]; decide), spend_on' ho]
      exact same_pset hl (fun g => { g with last := g.data.length }) fun _ => rfl
  · exact SameO.refl _ _
theorem lput_same {p : PD} {L : PL} (ho : On' p) (hnm : 0 < L.name.length ∧ L.name.length ≤ 8) {part : Nat} (hl : part ≤ 9) (used : Nat) (r : Bs) : SameO p (lput p L part used r).1 L.name := by
  rcases append_on ho (d := frameOf r) (lfile_nm hnm part) with e | ⟨e, _⟩
  · unfold lput
    rw [e]
    intro k hk
    show pfind (pput _ _ _) k = _
    rw [find_put, if_neg (hk part hl)]
  · unfold lput
    rw [e]
    exact SameO.refl _ _
theorem lappend_same {p : PD} {L : PL} (ho : On' p) (hnm : 0 < L.name.length ∧ L.name.length ≤ 8) (hl : L.last ≤ 9) (r : Bs) : SameO p (lappend p L r).1 L.name := by
  unfold lappend
  split
  · split
    · exact SameO.refl _ _
    · rename_i h9
      split
      · have h1 := lsync_same (L := L) ho hl
        have e : (lsync p L).2.1.name = L.name := by unfold lsync; split <;> rfl
        have h2 := lput_same (L := (lsync p L).2.1) (lsync_on (L := L) ho).1 (by rw [e]; exact hnm) (part := L.last + 1) (by omega) 0 r
        rw [e] at h2
        exact h1.trans h2
      · exact lsync_same (L := L) ho hl
  · exact lput_same ho hnm hl _ r
theorem cut_same {p : PD} {n : Bs} {i : Nat} (hi : i ≤ 9) (ho : On' p) (m : Int) : SameO p (pCut p (lfile n i) m).1 n := by
  unfold pCut pChange
  rw [if_neg (by rw [ho.2]; decide)]
  cases pfind p.files (lfile n i) with
  | none => exact SameO.refl _ _
  | some f =>
    dsimp only
    split
    · exact SameO.refl _ _
    · rw [if_neg (by rw [ho.1]; decide), spend_on' ho]
      exact same_pset hi (fun g => { g with data := g.data.take m.toNat, last := min g.last m.toNat }) fun _ => rfl
theorem lread_same (f : Nat) : ∀ (p : PD) (k : Nat) (L : PL), On' p → f + k ≤ 10 → SameO p (lread f p k L).1 L.name := by
  induction f with
  | zero => exact fun _ _ _ _ _ => SameO.refl _ _
  | succ f ih =>
    intro p k L ho hk
    unfold lread
    split
    · exact SameO.refl _ _
    · rename_i x hx
      split
      · exact cut_same (by omega) ho _
      · exact ih p (k + 1) (L.got k (parse x.data)) ho (by omega)
theorem ldel_same (n : Bs) (last : Nat) : ∀ (f : Nat) (M : List PF) (k : Bs), last + f ≤ 9 → NotOf n k → pfind (ldel n last f M) k = pfind M k := by
  intro f
  induction f with
  | zero => exact fun _ _ _ _ => rfl
  | succ f ih =>
    intro M k hf hk
    unfold ldel
    rw [ih _ k (by omega) hk, find_del, if_neg (hk _ (by omega))]
end Go.Proofs.YthnaggmafbhdmaaDoor

namespace Go.Proofs.YthnaggmafbhdmaaDoor
open Go.RowKit Go.Maps

/-- the records of files one behind the other, up to the first one that isn't frames alone. -/
def anyR : List Bs → List Bs
  | [] => []
  | d :: t => (parse d).1 ++ if (parse d).2 < d.length then [] else anyR t
/-- the files as they are once they were opened. -/
def anyQ : List Bs → List Bs
  | [] => []
  | d :: t => if (parse d).2 < d.length then [d.take (parse d).2] else d :: anyQ t
def allW : List Bs → Bool
  | [] => true
  | d :: t => !decide ((parse d).2 < d.length) && allW t
theorem allW_snoc (qs : List Bs) (d : Bs) : allW (qs ++ [d]) = (allW qs && !decide ((parse d).2 < d.length)) := by
  induction qs with
  | nil => simp [allW]
  | cons q t ih => rw [List.cons_append, allW, allW, ih, Bool.and_assoc]
theorem anyR_snoc (qs : List Bs) (d : Bs) : anyR (qs ++ [d]) = if allW qs then anyR qs ++ (parse d).1 else anyR qs := by
  induction qs with
  | nil => simp [anyR, allW]
  | cons q t ih =>
    rw [List.cons_append, anyR, anyR, allW]
    by_cases h : (parse q).2 < q.length
    · simp [h]
    · rw [if_neg h, if_neg h, ih]
      simp only [h, decide_false, Bool.not_false, Bool.true_and]
      split
      · rw [List.append_assoc]
      · rfl
theorem unfr_frame2 (l : Bs) (h : (unfr l).2.2 = 0) : frameOf (unfr l).1 = l.take (unfr l).2.1 := by
  unfold unfr at h ⊢
  split
  · rename_i h1; rw [if_pos h1] at h; cases h
  rename_i h1
  rw [if_neg h1] at h
  split
  · rename_i h2; rw [if_pos h2] at h; cases h
  rename_i h2
  rw [if_neg h2] at h
  split
  · rename_i h3; rw [if_pos h3] at h; cases h
  rename_i h3
  rw [if_neg h3] at h
  split
  · rename_i h4; exact h4
  · rename_i h4; rw [if_neg h4] at h; cases h
/-- what is read of bytes are their first bytes, as frames. -/
theorem parse_frames2 (k : Nat) : ∀ l : Bs, l.length ≤ k → frames (parse l).1 = l.take (parse l).2 := by
  induction k with
  | zero =>
    intro l hl
    obtain rfl : l = [] := List.length_eq_zero_iff.1 (by omega)
    rw [parse_nil]; rfl
  | succ k ih =>
    intro l hl
    by_cases h : (unfr l).2.2 = 0
    · have h1 := unfr_ok l h
      rw [parse_ok l h]
      dsimp only
      rw [frames_cons, unfr_frame2 l h, ih (l.drop (unfr l).2.1) (by rw [List.length_drop]; omega), ← List.take_add]
    · rw [parse_bad l h]; rfl
theorem parse_cut (d : Bs) : parse (d.take (parse d).2) = ((parse d).1, (d.take (parse d).2).length) := by
  rw [← parse_frames2 d.length d (Nat.le_refl _)]
  exact parse_frames _ (parse_le d.length d (Nat.le_refl _)).2.2
theorem anyR_anyQ (ps : List Bs) : anyR (anyQ ps) = anyR ps := by
  induction ps with
  | nil => rfl
  | cons d t ih =>
    unfold anyQ
    split
    · rename_i h
      rw [anyR, anyR, parse_cut d, if_neg (by dsimp only; omega)]
      simp [anyR, h]
    · rename_i h
      rw [anyR, anyR, if_neg h, if_neg h, ih]
theorem anyQ_nil (ps : List Bs) : (anyQ ps = []) ↔ ps = [] := by
  cases ps with
  | nil => simp [anyQ]
  | cons d t => unfold anyQ; split <;> simp
theorem anyQ_le (ps : List Bs) : (anyQ ps).length ≤ ps.length := by
  induction ps with
  | nil => exact Nat.le_refl _
  | cons d t ih => unfold anyQ; split <;> simp <;> omega
theorem any_pset (L : List PF) (k : Bs) (h : PF → PF) (hn : ∀ f, (h f).name = f.name) (k' : Bs) : pfind (pset L k h) k' = if k' = k then (pfind L k).map h else pfind L k' := by
  induction L with
  | nil => simp [pset, pfind]
  | cons f t ih =>
    unfold pset at ih ⊢
    rw [List.map_cons]
    by_cases e : f.name = k
    · rw [if_pos e]
      unfold pfind
      rw [hn, e]
      by_cases e2 : k = k'
      · subst e2; simp
      · rw [if_neg e2, if_neg (fun x => e2 x.symm), if_neg e2, ih, if_neg (fun x => e2 x.symm)]
    · rw [if_neg e]
      unfold pfind
      rw [if_neg e]
      by_cases e2 : f.name = k'
      · rw [if_pos e2, if_pos e2]
        rw [if_neg]
        intro e3
        exact e (e2.trans e3)
      · rw [if_neg e2, if_neg e2]
        exact ih
theorem any_pdel (L : List PF) (k k' : Bs) : pfind (pdel L k) k' = if k' = k then none else pfind L k' := by
  induction L with
  | nil => simp [pdel, pfind]
  | cons f t ih =>
    unfold pdel at ih ⊢
    rw [List.filter_cons]
    by_cases e : f.name = k
    · rw [if_neg (by simp [e]), ih]
      by_cases e2 : k' = k
      · rw [if_pos e2, if_pos e2]
      · rw [if_neg e2, if_neg e2]
        unfold pfind
        rw [if_neg (fun x => e2 (x.symm.trans e))]
        cases t <;> rfl
    · rw [if_pos (by simp [e])]
      unfold pfind
      by_cases e2 : f.name = k'
      · rw [if_pos e2, if_pos e2, if_neg (fun x => e (e2.trans x))]
      · rw [if_neg e2, if_neg e2]
        exact ih
theorem any_cut {p : PD} (h : On' p) {k : Bs} {x : PF} (hf : pfind p.files k = some x) {n : Nat} (hn : n ≤ x.data.length) (k' : Bs) :
    (pfind (pCut p k n).1.files k').map (·.data) = if k' = k then some (x.data.take n) else (pfind p.files k').map (·.data) := by
  have e : (pCut p k n).1.files = pset p.files k fun g => { g with data := g.data.take (n : Int).toNat, last := min g.last (n : Int).toNat } := by
    unfold pCut pChange
    rw [if_neg (by rw [h.2]; decide), hf]
    dsimp only
    rw [if_neg (by simp; omega), if_neg (by rw [h.1]; decide)]
  rw [e, any_pset _ _ (fun g => { g with data := g.data.take (n : Int).toNat, last := min g.last (n : Int).toNat }) (fun _ => rfl)]
  by_cases e2 : k' = k
  · rw [if_pos e2, if_pos e2, hf]; simp
  · rw [if_neg e2, if_neg e2]
theorem lread_anyL (n : Bs) : ∀ f (p : PD) (k : Nat) (L : PL) (ps : List Bs), On' p → L.name = n → f + k = 10 → ps.length ≤ f → (∀ j, k ≤ j → j ≤ 9 → (pfind p.files (lfile n j)).map (·.data) = ps[j - k]?) →
    (lread f p k L).2.recs = L.recs ++ anyR ps ∧ (lread f p k L).2.last = (if ps = [] then L.last else k + (anyQ ps).length - 1) ∧ (lread f p k L).2.name = n ∧
    ∀ j, j ≤ 9 → (pfind (lread f p k L).1.files (lfile n j)).map (·.data) = if k ≤ j ∧ j - k < (anyQ ps).length then (anyQ ps)[j - k]? else (pfind p.files (lfile n j)).map (·.data) := by
  intro f
  induction f with
  | zero =>
    intro p k L ps _ hn _ hl _
    obtain rfl : ps = [] := List.length_eq_zero_iff.1 (by omega)
    exact ⟨by simp [lread, anyR], by simp [lread], hn, fun j _ => by simp [lread, anyQ]⟩
  | succ f ih =>
    intro p k L ps ho hn hk hl hF
    have h0 := hF k (Nat.le_refl _) (by omega)
    rw [Nat.sub_self] at h0
    unfold lread
    rw [hn]
    cases ps with
    | nil =>
      cases hp : pfind p.files (lfile n k) with
      | some x => rw [hp] at h0; cases h0
      | none => exact ⟨by simp [anyR], by simp, hn, fun j _ => by simp [anyQ]⟩
    | cons d t =>
      cases hp : pfind p.files (lfile n k) with
      | none => rw [hp] at h0; cases h0
      | some x =>
        rw [hp] at h0
        have hx : x.data = d := by simpa using h0
        dsimp only
        rw [hx]
        have hle := (parse_le d.length d (Nat.le_refl _)).1
        by_cases hc : (parse d).2 < d.length
        · rw [if_pos hc]
          refine ⟨by simp [PL.got, anyR, hc], by simp [PL.got, anyQ, hc], hn, fun j hj => ?_⟩
          rw [any_cut ho hp (by rw [hx]; exact hle)]
          simp only [anyQ, hc, if_true, List.length_cons, List.length_nil]
          by_cases e : lfile n j = lfile n k
          · have e2 := lfile_inj hj (by omega) e
            subst e2
            rw [if_pos rfl, if_pos ⟨Nat.le_refl _, by omega⟩, hx, Nat.sub_self]
            rfl
          · rw [if_neg e, if_neg]
            intro h
            apply e
            rw [show j = k by omega]
        · rw [if_neg hc]
          have hF2 : ∀ j, k + 1 ≤ j → j ≤ 9 → (pfind p.files (lfile n j)).map (·.data) = t[j - (k + 1)]? := fun j h1 h2 => by
            rw [hF j (by omega) h2, show j - k = (j - (k + 1)) + 1 by omega, List.getElem?_cons_succ]
          obtain ⟨i1, i2, i3, i4⟩ := ih p (k + 1) (L.got k (parse d)) t ho hn (by omega) (by rw [List.length_cons] at hl; omega) hF2
          refine ⟨?_, ?_, i3, fun j hj => ?_⟩
          · rw [i1]
            simp [PL.got, anyR, hc]
          · rw [i2, if_neg (show ¬ (d :: t) = [] by simp)]
            simp only [anyQ, hc, if_false, List.length_cons]
            by_cases ht : t = []
            · subst ht; simp [PL.got, anyQ]
            · rw [if_neg ht]
              have : (anyQ t).length ≠ 0 := fun h => ht ((anyQ_nil t).1 (List.length_eq_zero_iff.1 h))
              omega
          · rw [i4 j hj]
            simp only [anyQ, hc, if_false, List.length_cons]
            by_cases h1 : k + 1 ≤ j ∧ j - (k + 1) < (anyQ t).length
            · rw [if_pos h1, if_pos ⟨by omega, by omega⟩, show j - k = (j - (k + 1)) + 1 by omega, List.getElem?_cons_succ]
            · rw [if_neg h1]
              by_cases h2 : k ≤ j ∧ j - k < (anyQ t).length + 1
              · have e : j = k := by omega
                subst e
                rw [if_pos h2, Nat.sub_self, hp]
                simp [hx]
              · rw [if_neg h2]
theorem ldel_anyL (n : Bs) (last : Nat) : ∀ (f : Nat) (M : List PF) (j : Nat), last + f ≤ 9 → j ≤ 9 → pfind (ldel n last f M) (lfile n j) = if last < j ∧ j ≤ last + f then none else pfind M (lfile n j) := by
  intro f
  induction f with
  | zero =>
    intro M j _ _
    rw [if_neg (by omega)]
    rfl
  | succ f ih =>
    intro M j hf hj
    show pfind (ldel n last f (pdel M (lfile n (last + f + 1)))) _ = _
    rw [ih _ _ (by omega) hj, any_pdel]
    by_cases h : last < j ∧ j ≤ last + f
    · rw [if_pos h, if_pos ⟨h.1, by omega⟩]
    · rw [if_neg h]
      by_cases e : lfile n j = lfile n (last + f + 1)
      · have := lfile_inj hj (by omega) e
        rw [if_pos e, if_pos ⟨by omega, by omega⟩]
      · rw [if_neg e, if_neg]
        intro h2
        apply e
        rw [show j = last + f + 1 by omega]
/-- files that were laid are opened. -/
theorem lopen_anyL {p : PD} (n : Bs) (sz : Nat) (ps : List Bs) (ho : On' p) (hl : ps.length ≤ 10) (hF : ∀ j, j ≤ 9 → (pfind p.files (lfile n j)).map (·.data) = ps[j]?) :
    (lopen p n sz).2.recs = anyR ps ∧ On' (lopen p n sz).1 ∧ ∀ j, j ≤ 9 → (pfind (lopen p n sz).1.files (lfile n j)).map (·.data) = (anyQ ps)[j]? := by
  obtain ⟨h1, h2, h3, h4⟩ := lread_anyL n 10 p 0 (PL.new n sz) ps ho rfl (by omega) hl (fun j _ hj => by rw [Nat.sub_zero]; exact hF j hj)
  have hon := lread_on 10 p ho 0 (PL.new n sz)
  refine ⟨by show (lread 10 p 0 (PL.new n sz)).2.recs = _; rw [h1]; rfl, hon, fun j hj => ?_⟩
  have hql := anyQ_le ps
  show (pfind (ldel (lread 10 p 0 (PL.new n sz)).2.name (lread 10 p 0 (PL.new n sz)).2.last (9 - (lread 10 p 0 (PL.new n sz)).2.last) (lread 10 p 0 (PL.new n sz)).1.files) (lfile n j)).map (·.data) = _
  rw [h3, h2]
  have hlast : (if ps = [] then (PL.new n sz).last else 0 + (anyQ ps).length - 1) ≤ 9 := by
    split
    · exact Nat.zero_le _
    · omega
  rw [ldel_anyL n _ _ _ _ (by omega) hj]
  by_cases hps : ps = []
  · subst hps
    rw [if_pos rfl]
    have e := h4 j hj
    simp only [anyQ, List.length_nil, Nat.not_lt_zero, and_false, if_false] at e
    have e2 := hF j hj
    split
    · simp [anyQ]
    · rw [e, e2]
      simp [anyQ]
  · rw [if_neg hps]
    have hq0 : (anyQ ps).length ≠ 0 := fun h => hps ((anyQ_nil ps).1 (List.length_eq_zero_iff.1 h))
    split
    · rename_i h
      rw [List.getElem?_eq_none (by omega)]
      rfl
    · rename_i h
      rw [h4 j hj, if_pos ⟨Nat.zero_le _, by omega⟩, Nat.sub_zero]
theorem lread_nm (f : Nat) : ∀ (p : PD) (k : Nat) (L : PL), (lread f p k L).2.name = L.name := by
  induction f with
  | zero => exact fun _ _ _ => rfl
  | succ f ih =>
    intro p k L
    unfold lread
    split
    · rfl
    · split
      · rfl
      · rw [ih]; rfl
theorem lopen_nm (p : PD) (n : Bs) (sz : Nat) : (lopen p n sz).2.name = n := lread_nm 10 p 0 (PL.new n sz)
end Go.Proofs.YthnaggmafbhdmaaDoor

namespace Go.Proofs.YthnaggmafbhdmaaDoor
open Go.RowKit Go.Maps

theorem strBs (w : World) (A : Option Addr) (n c : Nat) (l : List UInt8) (hn : n = l.length) (hr : Rd w A (cb l)) :
    (convert 34 9 (.slice A n c)).run Tryd.prog w = .ok (.string (bstr l)) w :=
  run_str w _ _ 5 Tryd.underlying34 Tryd.underlying5 Tryd.underlying9 A c l n hn hr
def logN : Bs := [108, 111, 103]
/-- files laid one behind the other. -/
def LaidAt (p : PD) (qs : List Bs) : Prop := On' p ∧ Sz p qs.length (5000 * qs.length) ∧ ∀ j, j ≤ 9 → (pfind p.files (lfile logN j)).map (·.data) = qs[j]?
theorem laid_append {p : PD} {qs : List Bs} (h : LaidAt p qs) (nd : (p.files.map (·.name)).Nodup) (hq : qs.length ≤ 9) {d : Bs} (hd : d.length ≤ 5000) : LaidAt (pAppend p (lfile logN qs.length) d).1 (qs ++ [d]) := by
  obtain ⟨ho, hz, hF⟩ := h
  have hsz := put_sz p.files nd (lfile logN qs.length) d
  obtain ⟨z1, z2, z3⟩ := hz
  rcases append_on ho (d := d) (lfile_nm (n := logN) (by simp [logN]) qs.length) with e | ⟨_, hr⟩
  · rw [e]
    have hl : (qs ++ [d]).length = qs.length + 1 := by simp
    refine ⟨ho, ?_, fun j hj => ?_⟩
    · rw [hl]
      exact ⟨by show (pput _ _ _).length ≤ _; omega, by show ptotal (pput _ _ _) ≤ _; omega, z3⟩
    · show (pfind (pput _ _ _) _).map (·.data) = _
      rw [find_put]
      have hn := hF qs.length hq
      rw [List.getElem?_eq_none (Nat.le_refl _)] at hn
      have hn2 : pfind p.files (lfile logN qs.length) = none := by
        cases hx : pfind p.files (lfile logN qs.length) with
        | none => rfl
        | some x => rw [hx] at hn; cases hn
      by_cases e2 : lfile logN j = lfile logN qs.length
      · have := lfile_inj hj hq e2
        subst this
        rw [if_pos rfl, hn2, List.getElem?_append_right (Nat.le_refl _), Nat.sub_self]
        rfl
      · rw [if_neg e2, hF j hj]
        have hne : j ≠ qs.length := fun x => e2 (by rw [x])
        by_cases h3 : j < qs.length
        · rw [List.getElem?_append_left h3]
        · rw [List.getElem?_eq_none (by omega), List.getElem?_eq_none (by rw [hl]; omega)]
  · exfalso
    rcases hr with ⟨_, hr⟩ | hr <;> omega
theorem laid_new : LaidAt (pNew 1048576) [] := ⟨⟨rfl, rfl⟩, ⟨Nat.le_refl _, Nat.le_refl _, rfl⟩, fun _ _ => rfl⟩

def AllS (v : Value) (al : List Prt) : Nat → Prop := fun k => v.ownBlock = some k ∨ ∃ x ∈ al, (sl x).ownBlock = some k
/-- a disk, and a row v of records al beside it. -/
structure AllAt (w1 wr : World) (gd : Nat) (p : PD) (v : Value) (al : List Prt) : Prop where
  dk : AtS w1 wr gd p (AllS v al)
  row : wr.ownsRow w1.heap.size 34 1 v al.length (al.map sl)
  own : ∀ x ∈ al, wr.ownsRow w1.heap.size 5 1 (sl x) x.2.2.length (cb x.2.2)
section
variable {w1 wr w' w2 w3 : World} {gd : Nat} {p p' : PD} {v v' : Value} {al : List Prt}
theorem AllAt.lt (h : AllAt w1 wr gd p v al) : ∀ k, AllS v al k → w1.heap.size ≤ k ∧ k < wr.heap.size := fun k hk => by
  rcases hk with hk | ⟨x, hx, hk⟩
  · exact h.row.lt k hk
  · exact (h.own x hx).lt k hk
theorem AllAt.nofr (h : AllAt w1 wr gd p v al) (hf : Fr NoBlk wr w') : AllAt w1 w' gd p v al :=
  ⟨h.dk.nofr hf, own_fr h.row hf fun _ _ h => h, fun x hx => own_fr (h.own x hx) hf fun _ _ h => h⟩
theorem AllAt.disk (h : AllAt w1 wr gd p v al) (hd : AtS w1 w' gd p' (AllS v al)) (hf : Fr (Loose w1 (AllS v al)) wr w') : AllAt w1 w' gd p' v al :=
  ⟨hd, own_fr h.row hf fun k hk hc => hc.1 (.inl hk), fun x hx => own_fr (h.own x hx) hf fun k hk hc => hc.1 (.inr ⟨x, hx, hk⟩)⟩
/-- a record more: w': behind its making; w2: behind the new box; w3: behind the append. -/
theorem AllAt.push (h : AllAt w1 wr gd p v al) {x : Prt} (hn : w'.ownsRow wr.heap.size 5 1 (sl x) x.2.2.length (cb x.2.2)) (hf1 : Fr NoBlk wr w') (hf2 : Fr NoBlk w' w2)
    (ho : w3.ownsRow w1.heap.size 34 1 v' (al.length + 1) (al.map sl ++ [sl x])) (hg : w2.grownBy w3 v.ownBlock) (hb : v'.ownBlock = v.ownBlock ∨ v'.ownBlock = some w2.heap.size) : AllAt w1 w3 gd p v' (al ++ [x]) := by
  have h2 := (h.nofr hf1).nofr hf2
  have hg' := Fr.ofGrown hg
  have hs1 := h.dk.fr.size
  have hs2 := (hf1.trans hf2).size
  have hall : Fr (fun k => some k = v.ownBlock) wr w3 := ((hf1.trans hf2).mono fun _ _ h => h.elim).trans hg'
  refine ⟨(h.dk.prot hall (fun k hk e => ⟨.inl e.symm, (h.row.lt k e.symm).1⟩) (S' := AllS v' (al ++ [x])) fun k hk => ?_), by rw [List.length_append, List.map_append]; exact ho, fun y hy => ?_⟩
  · rcases hk with hk | ⟨y, hy, hk⟩
    · rcases hb with e | e
      · exact .inl (.inl (e ▸ hk))
      · rw [e] at hk
        injection hk with hk
        exact .inr (by omega)
    · rcases List.mem_append.1 hy with hy | hy
      · exact .inl (.inr ⟨y, hy, hk⟩)
      · rw [List.mem_singleton.1 hy] at hk
        exact .inr (hn.lt k hk).1
  · rcases List.mem_append.1 hy with hy | hy
    · exact own_fr (h2.own y hy) hg' fun k hk e => own_apart2 (h2.own y hy) h2.row (by decide) hk e.symm
    · rw [List.mem_singleton.1 hy]
      exact own_base (own_fr (own_fr hn hf2 fun _ _ h => h) hg' fun k hk e => own_apart2 (own_fr hn hf2 fun _ _ h => h) h2.row (by decide) hk e.symm) hs1
end
theorem own_part {w : World} {base : Nat} {x : Prt} (h : w.ownsRow base 5 1 (sl x) x.2.2.length (cb x.2.2)) : Part w x := by
  obtain ⟨A, c, e, _, hA⟩ := own_form h
  unfold sl at e
  injection e with e1 _ e3
  rw [← e1, ← e3] at hA
  exact ⟨Rd.of_own h, hA⟩
/-- between two files. -/
def AR (w1 wr : World) (gd : Nat) (v : Value) (bs : List Bs) : Prop := ∃ p al, AllAt w1 wr gd p v al ∧ LaidAt p bs ∧ al.map (·.2.2) = anyR bs ∧ al.length ≤ 6000 * bs.length
/-- within a file. -/
def AI (w1 wr : World) (gd : Nat) (v : Value) (bs : List Bs) (d : Bs) (k : Nat) : Prop := ∃ p al R, AllAt w1 wr gd p v al ∧ LaidAt p (bs ++ [d]) ∧ al.map (·.2.2) = anyR bs ++ R ∧ al.length ≤ 6000 * bs.length + k ∧ parse d = (R ++ (parse (d.drop k)).1, k + (parse (d.drop k)).2) ∧ k ≤ d.length
theorem AI.next {w1 wr w' w2 w3 : World} {gd : Nat} {v v' : Value} {bs : List Bs} {d : Bs} {k : Nat} {p : PD} {al : List Prt} {R : List Bs} (h : AllAt w1 wr gd p v al) (hl : LaidAt p (bs ++ [d])) (ha : al.map (·.2.2) = anyR bs ++ R) (hn : al.length ≤ 6000 * bs.length + k) (hp : parse d = (R ++ (parse (d.drop k)).1, k + (parse (d.drop k)).2)) (hk : k ≤ d.length) {x : Prt} {us : Nat} (hu : unfr (d.drop k) = (x.2.2, us, 0))
    (ho : w'.ownsRow wr.heap.size 5 1 (sl x) x.2.2.length (cb x.2.2)) (hf1 : Fr NoBlk wr w') (hf2 : Fr NoBlk w' w2) (ho2 : w3.ownsRow w1.heap.size 34 1 v' (al.length + 1) (al.map sl ++ [sl x])) (hg : w2.grownBy w3 v.ownBlock) (hb : v'.ownBlock = v.ownBlock ∨ v'.ownBlock = some w2.heap.size) : AI w1 w3 gd v' bs d (k + us) := by
  have h1 := unfr_ok (d.drop k) (by rw [hu])
  rw [hu, List.length_drop] at h1
  dsimp only at h1
  have h2 := parse_ok (d.drop k) (by rw [hu])
  rw [hu] at h2
  dsimp only at h2
  refine ⟨p, al ++ [x], R ++ [x.2.2], h.push ho hf1 hf2 ho2 hg hb, hl, by rw [List.map_append, ha, List.append_assoc]; rfl, by rw [List.length_append]; simp; omega, ?_, by omega⟩
  rw [hp, h2, List.drop_drop, List.append_assoc]
  show (R ++ (x.2.2 :: _), k + (us + _)) = (R ++ ([x.2.2] ++ _), k + us + _)
  rw [Nat.add_assoc]
  rfl
/-- a file is read to its end, or to where it isn't frames. -/
theorem AI.fin {w1 wr : World} {gd : Nat} {v : Value} {bs : List Bs} {d : Bs} {k : Nat} (h : AI w1 wr gd v bs d k) (hw : allW bs = true) (h0 : parse (d.drop k) = ([], 0)) (hd : d.length ≤ 5000) : AR w1 wr gd v (bs ++ [d]) ∧ parse d = ((parse d).1, k) := by
  obtain ⟨p, al, R, h1, h2, h3, h4, h5, h6⟩ := h
  have e : parse d = (R, k) := by rw [h5, h0, List.append_nil, Nat.add_zero]
  refine ⟨⟨p, al, h1, h2, ?_, ?_⟩, by rw [e]⟩
  · rw [anyR_snoc, if_pos hw, e, h3]
  · rw [List.length_append]
    show al.length ≤ 6000 * (bs.length + 1)
    omega
theorem AR.skip {w1 wr w' : World} {gd : Nat} {p p' : PD} {v : Value} {bs : List Bs} {d : Bs} {al : List Prt} (h : AllAt w1 w' gd p' v al) (hl : LaidAt p' (bs ++ [d])) (ha : al.map (·.2.2) = anyR bs) (hn : al.length ≤ 6000 * bs.length) (hw : allW bs = false) : AR w1 w' gd v (bs ++ [d]) := by
  refine ⟨p', al, h, hl, ?_, ?_⟩
  · rw [anyR_snoc, if_neg (by rw [hw]; decide), ha]
  · rw [List.length_append]
    show al.length ≤ 6000 * (bs.length + 1)
    omega
end Go.Proofs.YthnaggmafbhdmaaDoor
