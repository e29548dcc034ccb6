/- A log and its files: what appending, syncing, a crash and opening make of them. Plain mathematics. Conditions: the disk's power has no end; records are no longer than a frame takes. -/
import Derived.Test.YthnaggmafbhdmaaDoorLSync
import Derived.Test.YthnaggmafbhdmaaDoorLAppendP
namespace Go.Proofs.YthnaggmafbhdmaaDoor
open Go.RowKit Go.Maps

theorem find_name {L : List PF} {k : Bs} {f : PF} (h : pfind L k = some f) : f.name = k := by
  induction L with
  | nil => cases h
  | cons g t ih =>
    unfold pfind at h
    split at h
    · rename_i e
      injection h with h
      rw [← h]; exact e
    · exact ih h
theorem find_set (L : List PF) (k : Bs) (a : PF → PF) (ha : ∀ f, (a f).name = f.name) (k' : Bs) : pfind (pset L k a) k' = (pfind L k').map fun f => if k' = k then a f else f := by
  induction L with
  | nil => rfl
  | cons g t ih =>
    show pfind ((if g.name = k then a g else g) :: pset t k a) k' = _
    by_cases e : g.name = k'
    · have e2 : (if g.name = k then a g else g).name = k' := by split <;> simp [ha, e]
      simp only [pfind, if_pos e, if_pos e2, Option.map_some]
      by_cases e3 : k' = k
      · rw [if_pos (e.trans e3), if_pos e3]
      · rw [if_neg (fun h => e3 (e.symm.trans h)), if_neg e3]
    · have e2 : ¬ (if g.name = k then a g else g).name = k' := by split <;> simp [ha, e]
      simp only [pfind, if_neg e, if_neg e2]
      exact ih
theorem find_ins (L : List PF) (x : PF) (hn : pfind L x.name = none) (k' : Bs) : pfind (pins x L) k' = if x.name = k' then some x else pfind L k' := by
  induction L with
  | nil =>
    unfold pins pfind
    split
    · rfl
    · rfl
  | cons g t ih =>
    have hg : ¬ g.name = x.name := fun e => by
      unfold pfind at hn
      rw [if_pos e] at hn
      cases hn
    have ht : pfind t x.name = none := by
      unfold pfind at hn
      rw [if_neg hg] at hn
      exact hn
    unfold pins
    split
    · show (if x.name = k' then some x else pfind (g :: t) k') = _
      rfl
    · by_cases e : g.name = k'
      · have : ¬ x.name = k' := fun h => hg (e.trans h.symm)
        simp only [pfind, if_pos e, if_neg this]
      · simp only [pfind, if_neg e]
        exact ih ht
theorem find_put (L : List PF) (k d k' : Bs) : pfind (pput L k d) k' = if k' = k then some ⟨k, (match pfind L k with | some f => f.data | none => []) ++ d, match pfind L k with | some f => f.last | none => 0⟩ else pfind L k' := by
  unfold pput
  cases hf : pfind L k with
  | some f =>
    dsimp only
    rw [find_set _ _ (fun g => { g with data := g.data ++ d }) (fun _ => rfl)]
    by_cases e : k' = k
    · rw [if_pos e, e, hf]
      simp [find_name hf]
    · rw [if_neg e]
      cases pfind L k' with
      | none => rfl
      | some g => simp [e]
  | none =>
    dsimp only
    rw [find_set _ _ (fun g => { g with data := g.data ++ d }) (fun _ => rfl), find_ins _ _ hf]
    by_cases e : k' = k
    · rw [if_pos e.symm, if_pos e]
      simp [e]
    · rw [if_neg (fun h => e h.symm), if_neg e]
      cases pfind L k' with
      | none => rfl
      | some g => simp [e]
theorem find_crash (L : List PF) (ks : List Int) (k : Bs) : (pfind L k = none → pfind (pcrashL L ks) k = none) ∧ ∀ f, pfind L k = some f → ∃ z, pfind (pcrashL L ks) k = some (pcrashF f z) := by
  induction L generalizing ks with
  | nil => exact ⟨fun _ => rfl, fun f h => by cases h⟩
  | cons g t ih =>
    obtain ⟨h1, h2⟩ := ih ks.tail
    by_cases e : g.name = k
    · have e2 : (pcrashF g (ks.headD 0)).name = k := e
      simp only [pfind, pcrashL, if_pos e, if_pos e2]
      refine ⟨(fun h => by cases h), fun f h => ?_⟩
      injection h with h
      exact ⟨ks.headD 0, by rw [h]⟩
    · have e2 : ¬ (pcrashF g (ks.headD 0)).name = k := e
      simp only [pfind, pcrashL, if_neg e, if_neg e2]
      exact ⟨h1, h2⟩
theorem spend_on' {p : PD} (h : On' p) : pspend p = p := by
  unfold pspend
  rw [if_neg (by rw [h.1]; decide), if_neg (by rw [h.1]; decide)]
theorem sync_on {p : PD} (h : On' p) {k : Bs} {x : PF} (hf : pfind p.files k = some x) : pSync p k = ({ p with files := pset p.files k fun g => { g with last := g.data.length } }, 0) := by
  unfold pSync pChange
  rw [hf, spend_on' h]
  simp [h.1, h.2]
theorem cut_to {p : PD} (h : On' p) {k : Bs} {x : PF} (hf : pfind p.files k = some x) {n : Nat} (hn : n ≤ x.data.length) : (pCut p k n).1 = { p with files := pset p.files k fun g => { g with data := g.data.take n, last := min g.last n } } := by
  unfold pCut pChange
  rw [hf, spend_on' h]
  simp [h.1, h.2]
  rw [if_neg (by omega)]
theorem append_on {p : PD} (h : On' p) {k d : Bs} (hk : isNm k = true) : pAppend p k d = ({ p with files := pput p.files k d }, 0) ∨ (pAppend p k d = (p, 2) ∧ ((pfind p.files k = none ∧ 32 ≤ p.files.length) ∨ p.room < ptotal p.files + d.length)) := by
  unfold pAppend
  rw [if_neg (by rw [h.2]; decide), if_neg (by rw [hk]; decide)]
  split
  · rename_i hc
    exact .inr ⟨rfl, hc⟩
  · left
    have hl : ¬ p.left = 0 := by rw [h.1]; decide
    have e1 : pspend { p with files := pput p.files k d } = { p with files := pput p.files k d } := spend_on' (p := { p with files := pput p.files k d }) h
    rw [e1]
    unfold pspendE
    rw [if_neg hl]

/-- a log and its files: init, the records of all parts but the last one; cur, those of that one, of which s last for sure. -/
structure LInv (p : PD) (L : PL) (init : List (List Bs)) (cur : List Bs) (s : Nat) : Prop where
  on : On' p
  nm : 0 < L.name.length ∧ L.name.length ≤ 8
  last : L.last = init.length
  le9 : init.length ≤ 9
  full : ∀ (i : Nat) (rs : List Bs), init[i]? = some rs → pfind p.files (lfile L.name i) = some ⟨lfile L.name i, frames rs, (frames rs).length⟩
  curF : (cur = [] ∧ init = [] ∧ L.waits = false ∧ pfind p.files (lfile L.name 0) = none) ∨ ∃ l, pfind p.files (lfile L.name init.length) = some ⟨lfile L.name init.length, frames cur, l⟩ ∧ (frames (cur.take s)).length ≤ l ∧ l ≤ (frames cur).length
  up : ∀ i, init.length < i → i ≤ 9 → pfind p.files (lfile L.name i) = none
  recs : L.recs = init.flatten ++ cur
  used : L.used = (frames cur).length
  short : ∀ r ∈ init.flatten ++ cur, r.length ≤ 4096
  sle : s ≤ cur.length
  wt : L.waits = false → s = cur.length
theorem lfile_nm {n : Bs} (h : 0 < n.length ∧ n.length ≤ 8) (k : Nat) : isNm (lfile n k) = true := by
  unfold isNm
  rw [lfile_len]
  simp
  omega
theorem lsync_inv {p : PD} {L : PL} {init : List (List Bs)} {cur : List Bs} {s : Nat} (h : LInv p L init cur s) : (lsync p L).2.2 = 0 ∧ LInv (lsync p L).1 (lsync p L).2.1 init cur cur.length ∧ (lsync p L).2.1.waits = false := by
  cases hw : L.waits with
  | false =>
    have e : lsync p L = (p, L, 0) := if_neg (by rw [hw]; decide)
    rw [e]
    have := h.wt hw
    subst this
    exact ⟨rfl, h, hw⟩
  | true =>
    rcases h.curF with ⟨_, _, h1, _⟩ | ⟨l, hf, hl1, hl2⟩
    · rw [hw] at h1; cases h1
    have hy := sync_on h.on (k := lfile L.name L.last) (by rw [h.last]; exact hf)
    have e : lsync p L = ({ p with files := pset p.files (lfile L.name L.last) fun g => { g with last := g.data.length } }, { L with waits := false }, 0) := by
      unfold lsync
      rw [if_pos hw, hy]
      rfl
    rw [e]
    refine ⟨rfl, ⟨h.on, h.nm, h.last, h.le9, fun i rs hi => ?_, .inr ⟨(frames cur).length, ?_, ?_, Nat.le_refl _⟩, fun i h1 h2 => ?_, h.recs, h.used, h.short, Nat.le_refl _, fun _ => rfl⟩, rfl⟩
    · show pfind (pset _ _ _) _ = _
      rw [find_set _ _ (fun g => { g with last := g.data.length }) (fun _ => rfl), h.full i rs hi]
      have hlt := (List.getElem?_eq_some_iff.1 hi).1
      have := h.le9
      rw [Option.map_some, if_neg (fun e => by have := lfile_inj (by omega) (by rw [h.last]; omega) e; rw [h.last] at this; omega)]
    · show pfind (pset _ _ _) _ = _
      rw [find_set _ _ (fun g => { g with last := g.data.length }) (fun _ => rfl), hf, h.last, Option.map_some, if_pos rfl]
    · rw [List.take_length]; exact Nat.le_refl _
    · show pfind (pset _ _ _) _ = _
      rw [find_set _ _ (fun g => { g with last := g.data.length }) (fun _ => rfl)]
      have := h.up i h1 h2
      rw [show pfind p.files (lfile ({ L with waits := false } : PL).name i) = none from this]
      rfl
theorem lput_inv {p : PD} {L : PL} {init : List (List Bs)} {cur : List Bs} {s : Nat} (h : LInv p L init cur s) (r : Bs) (hr : r.length ≤ 4096) :
    (lput p L L.last L.used r = (p, L, 2)) ∨ ((lput p L L.last L.used r).2.2 = 0 ∧ LInv (lput p L L.last L.used r).1 (lput p L L.last L.used r).2.1 init (cur ++ [r]) s) := by
  rcases append_on h.on (d := frameOf r) (lfile_nm h.nm L.last) with e | ⟨e, _⟩
  · right
    have e2 : lput p L L.last L.used r = ({ p with files := pput p.files (lfile L.name L.last) (frameOf r) }, { L with last := L.last, used := L.used + (frameOf r).length, waits := true, recs := L.recs ++ [r] }, 0) := by
      unfold lput
      rw [e]
      rfl
    rw [e2]
    have hput : ∀ k', pfind (pput p.files (lfile L.name L.last) (frameOf r)) k' = _ := find_put p.files (lfile L.name L.last) (frameOf r)
    have h9 := h.le9
    refine ⟨rfl, h.on, h.nm, h.last, h.le9, fun i rs hi => ?_, .inr ?_, fun i h1 h2 => ?_, ?_, ?_, ?_, ?_, fun h => by cases h⟩
    · show pfind (pput _ _ _) _ = _
      have hlt := (List.getElem?_eq_some_iff.1 hi).1
      rw [hput, if_neg (fun e => by have := lfile_inj (by omega) (by rw [h.last]; omega) e; rw [h.last] at this; omega)]
      exact h.full i rs hi
    · rcases h.curF with ⟨rfl, rfl, _, hn⟩ | ⟨l, hf, hl1, hl2⟩
      · have hs : s = 0 := by have := h.sle; simpa using this
        subst hs
        refine ⟨0, ?_, by simp [frames], Nat.zero_le _⟩
        show pfind (pput _ _ _) (lfile L.name 0) = _
        rw [hput, h.last]
        show (if lfile L.name 0 = lfile L.name 0 then _ else _) = _
        rw [if_pos rfl, show lfile L.name ([] : List (List Bs)).length = lfile L.name 0 from rfl, hn]
        simp [frames]
      · refine ⟨l, ?_, ?_, ?_⟩
        · show pfind (pput _ _ _) (lfile L.name init.length) = _
          rw [hput, h.last, if_pos rfl, hf]
          simp [frames]
        · rw [List.take_append_of_le_length h.sle]; exact hl1
        · rw [frames_append, List.length_append]; omega
    · show pfind (pput _ _ _) _ = _
      rw [hput, if_neg (fun e => by have := lfile_inj (by omega) (by rw [h.last]; omega) e; rw [h.last] at this; omega)]
      exact h.up i h1 h2
    · show L.recs ++ [r] = _
      rw [h.recs, List.append_assoc]
    · show L.used + _ = _
      rw [h.used, frames_append, List.length_append, frames_one]
    · intro x hx
      rw [← List.append_assoc] at hx
      rcases List.mem_append.1 hx with hx | hx
      · exact h.short x hx
      · rw [List.mem_singleton.1 hx]; exact hr
    · rw [List.length_append]; have := h.sle; omega
  · left
    unfold lput
    rw [e]
    rfl
theorem lnext_inv {p : PD} {L : PL} {init : List (List Bs)} {cur : List Bs} (h : LInv p L init cur cur.length) (hw : L.waits = false) (hu : 0 < L.used) (r : Bs) (hr : r.length ≤ 4096) (h9 : L.last ≠ 9) :
    (lput p L (L.last + 1) 0 r = (p, L, 2)) ∨ ((lput p L (L.last + 1) 0 r).2.2 = 0 ∧ LInv (lput p L (L.last + 1) 0 r).1 (lput p L (L.last + 1) 0 r).2.1 (init ++ [cur]) [r] 0) := by
  have hl9 := h.le9
  have hlast := h.last
  rcases append_on h.on (d := frameOf r) (lfile_nm h.nm (L.last + 1)) with e | ⟨e, _⟩
  · right
    have e2 : lput p L (L.last + 1) 0 r = ({ p with files := pput p.files (lfile L.name (L.last + 1)) (frameOf r) }, { L with last := L.last + 1, used := 0 + (frameOf r).length, waits := true, recs := L.recs ++ [r] }, 0) := by
      unfold lput
      rw [e]
      rfl
    rw [e2]
    have hput : ∀ k', pfind (pput p.files (lfile L.name (L.last + 1)) (frameOf r)) k' = _ := find_put p.files (lfile L.name (L.last + 1)) (frameOf r)
    have hnew : pfind p.files (lfile L.name (L.last + 1)) = none := h.up _ (by omega) (by omega)
    obtain ⟨l, hf, hl1, hl2⟩ : ∃ l, pfind p.files (lfile L.name init.length) = some ⟨lfile L.name init.length, frames cur, l⟩ ∧ (frames (cur.take cur.length)).length ≤ l ∧ l ≤ (frames cur).length := by
      rcases h.curF with ⟨hc, _⟩ | h
      · have := h.used
        rw [hc] at this
        simp [frames] at this
        omega
      · exact h
    rw [List.take_length] at hl1
    refine ⟨rfl, h.on, h.nm, by rw [List.length_append]; show L.last + 1 = _; rw [h.last]; rfl, by rw [List.length_append]; show _ + 1 ≤ 9; omega, fun i rs hi => ?_, .inr ⟨0, ?_, by simp [frames], Nat.zero_le _⟩, fun i h1 h2 => ?_, ?_, ?_, ?_, Nat.zero_le _, fun h => by cases h⟩
    · show pfind (pput _ _ _) _ = _
      have hlt := (List.getElem?_eq_some_iff.1 hi).1
      rw [List.length_append] at hlt
      have hlt : i < init.length + 1 := hlt
      rw [hput, if_neg (fun e => by have := lfile_inj (by omega) (by omega) e; omega)]
      by_cases hi2 : i < init.length
      · rw [List.getElem?_append_left hi2] at hi
        exact h.full i rs hi
      · obtain rfl : i = init.length := by omega
        rw [List.getElem?_append_right (Nat.le_refl _), Nat.sub_self] at hi
        injection hi with hi
        subst hi
        rw [show ({ L with last := L.last + 1, used := 0 + (frameOf r).length, waits := true, recs := L.recs ++ [r] } : PL).name = L.name from rfl, hf, show l = (frames cur).length from by omega]
    · show pfind (pput _ _ _) (lfile L.name (init ++ [cur]).length) = _
      rw [hput, List.length_append]
      show (if lfile L.name (init.length + 1) = lfile L.name (L.last + 1) then _ else _) = _
      rw [h.last] at hnew ⊢
      rw [if_pos rfl, hnew, frames_one]
      rfl
    · rw [List.length_append] at h1
      have h1 : init.length + 1 < i := h1
      show pfind (pput _ _ _) _ = _
      rw [hput, if_neg (fun e => by have := lfile_inj (by omega) (by omega) e; omega)]
      exact h.up i (by omega) h2
    · show L.recs ++ [r] = _
      rw [h.recs]
      simp
    · show 0 + _ = _
      rw [frames_one, Nat.zero_add]
    · intro x hx
      have e3 : (init ++ [cur]).flatten ++ [r] = (init.flatten ++ cur) ++ [r] := by simp
      rw [e3] at hx
      rcases List.mem_append.1 hx with hx | hx
      · exact h.short x hx
      · rw [List.mem_singleton.1 hx]; exact hr
  · left
    unfold lput
    rw [e]
    rfl
/-- what an Append makes of a log: refused with 2, or the record is behind the others. -/
theorem lappend_inv {p : PD} {L : PL} {init : List (List Bs)} {cur : List Bs} {s : Nat} (h : LInv p L init cur s) (r : Bs) (hr : r.length ≤ 4096) :
    ((lappend p L r).2.2 = 2 ∧ ∃ s', s ≤ s' ∧ LInv (lappend p L r).1 (lappend p L r).2.1 init cur s') ∨
    ((lappend p L r).2.2 = 0 ∧ ∃ init' cur' s', LInv (lappend p L r).1 (lappend p L r).2.1 init' cur' s' ∧ init'.flatten ++ cur' = init.flatten ++ cur ++ [r] ∧ init.flatten.length + s ≤ init'.flatten.length + s') := by
  unfold lappend
  split
  · rename_i hb
    split
    · exact .inl ⟨rfl, s, Nat.le_refl _, h⟩
    · rename_i h9
      obtain ⟨e0, hi, hw⟩ := lsync_inv h
      rw [if_pos e0]
      have hn : (lsync p L).2.1.used = L.used ∧ (lsync p L).2.1.last = L.last := by unfold lsync; split <;> exact ⟨rfl, rfl⟩
      have hx := lnext_inv hi hw (by rw [hn.1]; exact hb.1) r hr (by rw [hn.2]; exact h9)
      rw [hn.2] at hx
      rcases hx with e | ⟨e, hi2⟩
      · rw [e]
        exact .inl ⟨rfl, cur.length, h.sle, hi⟩
      · refine .inr ⟨e, _, _, _, hi2, by simp, ?_⟩
        have := h.sle
        simp
        omega
  · rcases lput_inv h r hr with e | ⟨e, hi⟩
    · rw [e]
      exact .inl ⟨rfl, s, Nat.le_refl _, h⟩
    · exact .inr ⟨e, _, _, _, hi, by simp, Nat.le_refl _⟩
end Go.Proofs.YthnaggmafbhdmaaDoor
