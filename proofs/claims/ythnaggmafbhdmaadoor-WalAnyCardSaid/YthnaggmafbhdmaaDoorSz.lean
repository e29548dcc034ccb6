/- How many files and bytes a disk has behind the calls of a log; when an Append is refused. Plain mathematics. Condition: the disk's power has no end. -/
import Derived.Test.YthnaggmafbhdmaaDoorInv2
namespace Go.Proofs.YthnaggmafbhdmaaDoor
open Go.RowKit Go.Maps

/-- no more files than a, no more bytes than b. -/
def Sz (p : PD) (a b : Nat) : Prop := p.files.length ≤ a ∧ ptotal p.files ≤ b ∧ p.room = 1048576
theorem total_pset (L : List PF) (k : Bs) (h : PF → PF) (hh : ∀ f, (h f).data.length ≤ f.data.length) : ptotal (pset L k h) ≤ ptotal L := by
  induction L with
  | nil => exact Nat.le_refl _
  | cons g t ih =>
    show ptotal ((if g.name = k then h g else g) :: pset t k h) ≤ g.data.length + ptotal t
    have : (if g.name = k then h g else g).data.length ≤ g.data.length := by
      split
      · exact hh g
      · exact Nat.le_refl _
    show (if g.name = k then h g else g).data.length + ptotal (pset t k h) ≤ _
    omega
theorem len_pset (L : List PF) (k : Bs) (h : PF → PF) : (pset L k h).length = L.length := List.length_map ..
theorem total_pdel (L : List PF) (k : Bs) : ptotal (pdel L k) ≤ ptotal L ∧ (pdel L k).length ≤ L.length := by
  refine ⟨?_, List.length_filter_le _ _⟩
  unfold pdel
  induction L with
  | nil => exact Nat.le_refl _
  | cons g t ih =>
    rw [List.filter_cons]
    split
    · show g.data.length + ptotal _ ≤ g.data.length + ptotal t
      omega
    · show ptotal _ ≤ g.data.length + ptotal t
      omega
theorem total_ldel (n : Bs) (last : Nat) : ∀ (f : Nat) (L : List PF), ptotal (ldel n last f L) ≤ ptotal L ∧ (ldel n last f L).length ≤ L.length := by
  intro f
  induction f with
  | zero => exact fun L => ⟨Nat.le_refl _, Nat.le_refl _⟩
  | succ f ih =>
    intro L
    have h1 := ih (pdel L (lfile n (last + f + 1)))
    have h2 := total_pdel L (lfile n (last + f + 1))
    exact ⟨Nat.le_trans h1.1 h2.1, Nat.le_trans h1.2 h2.2⟩
theorem total_crash (L : List PF) (ks : List Int) : ptotal (pcrashL L ks) ≤ ptotal L ∧ (pcrashL L ks).length = L.length := by
  induction L generalizing ks with
  | nil => exact ⟨Nat.le_refl _, rfl⟩
  | cons g t ih =>
    have h := ih ks.tail
    refine ⟨?_, by show (pcrashL t ks.tail).length + 1 = _; rw [h.2]; rfl⟩
    show (g.data.take _).length + ptotal (pcrashL t ks.tail) ≤ g.data.length + ptotal t
    rw [List.length_take]
    omega
theorem total_pins (x : PF) (L : List PF) : ptotal (pins x L) = x.data.length + ptotal L ∧ (pins x L).length = L.length + 1 := by
  induction L with
  | nil => exact ⟨rfl, rfl⟩
  | cons y r ih =>
    unfold pins
    split
    · exact ⟨rfl, rfl⟩
    · refine ⟨?_, by rw [List.length_cons, ih.2, List.length_cons]⟩
      show y.data.length + ptotal (pins x r) = x.data.length + (y.data.length + ptotal r)
      rw [ih.1]; omega
theorem none_of {L : List PF} {k : Bs} (h : pfind L k = none) : ∀ g ∈ L, ¬ g.name = k := by
  intro g hg e
  obtain ⟨f, hf⟩ := find_named (List.mem_map.2 ⟨g, hg, e⟩)
  rw [h] at hf
  cases hf
theorem set_same {L : List PF} {k : Bs} (h : ∀ g ∈ L, ¬ g.name = k) (a : PF → PF) : pset L k a = L := by
  unfold pset
  conv => rhs; rw [← List.map_id L]
  apply List.map_congr_left
  intro g hg
  rw [if_neg (h g hg)]
  rfl
theorem grow_set (L : List PF) (hn : (L.map (·.name)).Nodup) (k d : Bs) : ptotal (pset L k fun g => { g with data := g.data ++ d }) ≤ ptotal L + d.length := by
  induction L with
  | nil => exact Nat.zero_le _
  | cons g t ih =>
    rw [List.map_cons, List.nodup_cons] at hn
    show (if g.name = k then ({ g with data := g.data ++ d } : PF) else g).data.length + ptotal (pset t k _) ≤ g.data.length + ptotal t + d.length
    by_cases e : g.name = k
    · rw [set_same (fun x hx ex => hn.1 (List.mem_map.2 ⟨x, hx, ex.trans e.symm⟩)), if_pos e]
      show (g.data ++ d).length + ptotal t ≤ _
      rw [List.length_append]; omega
    · rw [if_neg e]
      have := ih hn.2
      omega
theorem put_sz (L : List PF) (hn : (L.map (·.name)).Nodup) (k d : Bs) : ptotal (pput L k d) ≤ ptotal L + d.length ∧ (pput L k d).length ≤ L.length + 1 := by
  unfold pput
  cases hf : pfind L k with
  | some f => exact ⟨grow_set L hn k d, by rw [len_pset]; exact Nat.le_succ _⟩
  | none =>
    dsimp only
    refine ⟨?_, by rw [len_pset, (total_pins _ _).2]; exact Nat.le_refl _⟩
    have hp : ((pins ⟨k, [], 0⟩ L).map (·.name)).Nodup := by
      have hperm : ((pins ⟨k, [], 0⟩ L).map (·.name)).Perm (k :: L.map (·.name)) := by
        clear hf hn
        induction L with
        | nil => exact List.Perm.refl _
        | cons y r ih =>
          unfold pins
          split
          · exact List.Perm.refl _
          · exact (ih.cons y.name).trans (List.Perm.swap k y.name _)
      rw [hperm.nodup_iff, List.nodup_cons]
      refine ⟨fun h => ?_, hn⟩
      obtain ⟨g, hg, e⟩ := List.mem_map.1 h
      exact none_of hf g hg e
    have h := grow_set (pins ⟨k, [], 0⟩ L) hp k d
    rw [(total_pins _ _).1] at h
    have h0 : ({ name := k, data := [], last := 0 } : PF).data.length = 0 := rfl
    rw [h0, Nat.zero_add] at h
    exact h
section
variable {p : PD} {L : PL} {a b : Nat}
theorem lsync_sz (ho : On' p) (h : Sz p a b) : Sz (lsync p L).1 a b := by
  unfold lsync
  split
  · unfold pSync pChange
    rw [if_neg (by rw [ho.2]; decide)]
    cases pfind p.files (lfile L.name L.last) with
    | none => exact h
    | some f =>
      dsimp only
      rw [if_neg (by decide), if_neg (by rw [ho.1]; decide), spend_on' ho]
      exact ⟨by show (pset _ _ _).length ≤ _; rw [len_pset]; exact h.1, Nat.le_trans (total_pset _ _ _ fun f => Nat.le_refl _) h.2.1, h.2.2⟩
  · exact h
theorem lput_sz (ho : On' p) (hnm : 0 < L.name.length ∧ L.name.length ≤ 8) (hn : (p.files.map (·.name)).Nodup) (h : Sz p a b) (part used : Nat) (r : Bs) : Sz (lput p L part used r).1 (a + 1) (b + (6 + r.length)) ∧ ((lput p L part used r).2.2 = 0 ∨ 32 ≤ a ∨ 1048576 < b + (6 + r.length)) := by
  have hps := put_sz p.files hn (lfile L.name part) (frameOf r)
  rw [frameOf_len] at hps
  rcases append_on ho (d := frameOf r) (lfile_nm hnm part) with e | ⟨e, hr⟩
  · unfold lput
    rw [e]
    refine ⟨⟨?_, ?_, h.2.2⟩, .inl rfl⟩
    · show (pput _ _ _).length ≤ _
      have := h.1; omega
    · show ptotal (pput _ _ _) ≤ _
      have := h.2.1; omega
  · have h1 := h.1
    have h2 := h.2.1
    have h3 := h.2.2
    rw [frameOf_len] at hr
    unfold lput
    rw [e]
    refine ⟨⟨by show p.files.length ≤ _; omega, by show ptotal p.files ≤ _; omega, h3⟩, .inr ?_⟩
    rcases hr with hr | hr
    · left; omega
    · right; omega
theorem names_set (L : List PF) (k : Bs) (a : PF → PF) (ha : ∀ f, (a f).name = f.name) : (pset L k a).map (·.name) = L.map (·.name) := by
  unfold pset
  rw [List.map_map]
  apply List.map_congr_left
  intro g _
  show (if g.name = k then a g else g).name = g.name
  split
  · exact ha g
  · rfl
theorem lsync_on (ho : On' p) : On' (lsync p L).1 ∧ ((lsync p L).1.files.map (·.name)) = p.files.map (·.name) := by
  unfold lsync
  split
  · unfold pSync pChange
    rw [if_neg (by rw [ho.2]; decide)]
    cases pfind p.files (lfile L.name L.last) with
    | none => exact ⟨ho, rfl⟩
    | some f =>
      dsimp only
      rw [if_neg (by decide), if_neg (by rw [ho.1]; decide), spend_on' ho]
      exact ⟨ho, names_set _ _ (fun g => { g with last := g.data.length }) fun _ => rfl⟩
  · exact ⟨ho, rfl⟩
/-- an Append to a log on a disk with room: how much there is behind it, and when it is refused. -/
theorem lappend_sz (ho : On' p) (hnm : 0 < L.name.length ∧ L.name.length ≤ 8) (hn : (p.files.map (·.name)).Nodup) (h : Sz p a b) (r : Bs) (ha : a < 32) (hb : b + (6 + r.length) ≤ 1048576) :
    Sz (lappend p L r).1 (a + 1) (b + (6 + r.length)) ∧ ((lappend p L r).2.2 = 2 → lappend p L r = (p, L, 2) ∧ L.last = 9 ∧ 0 < L.used) := by
  have hup : Sz p (a + 1) (b + (6 + r.length)) := ⟨by have := h.1; omega, by have := h.2.1; omega, h.2.2⟩
  unfold lappend
  split
  · rename_i hbig
    split
    · rename_i h9
      exact ⟨hup, fun _ => ⟨rfl, h9, hbig.1⟩⟩
    · split
      · have h1 := lput_sz (L := (lsync p L).2.1) (lsync_on (L := L) ho).1 (by
          have e : (lsync p L).2.1.name = L.name := by unfold lsync; split <;> rfl
          rw [e]; exact hnm) (by rw [(lsync_on (L := L) ho).2]; exact hn) (lsync_sz (L := L) ho h) (L.last + 1) 0 r
        refine ⟨h1.1, fun e => ?_⟩
        rcases h1.2 with h2 | h2 | h2
        · rw [h2] at e; cases e
        · omega
        · omega
      · rename_i he
        have h1 := lsync_sz (L := L) ho h
        refine ⟨⟨by have := h1.1; omega, by have := h1.2.1; omega, h1.2.2⟩, fun e => ?_⟩
        exfalso
        unfold lsync at e
        split at e
        · unfold pSync pChange at e
          rw [if_neg (by rw [ho.2]; decide)] at e
          cases hf : pfind p.files (lfile L.name L.last) with
          | none => rw [hf] at e; cases e
          | some f =>
            rw [hf] at e
            dsimp only at e
            rw [if_neg (by decide), if_neg (by rw [ho.1]; decide)] at e
            cases e
        · cases e
  · have h1 := lput_sz (L := L) ho hnm hn h L.last L.used r
    refine ⟨h1.1, fun e => ?_⟩
    rcases h1.2 with h2 | h2 | h2
    · rw [h2] at e; cases e
    · omega
    · omega
theorem crash_sz (h : Sz p a b) (ks : List Int) : Sz (pCrash p ks) a b := by
  have h1 := total_crash p.files ks
  exact ⟨by show (pcrashL _ _).length ≤ _; rw [h1.2]; exact h.1, Nat.le_trans h1.1 h.2.1, h.2.2⟩
theorem cut_sz (ho : On' p) (h : Sz p a b) (k : Bs) (n : Int) : Sz (pCut p k n).1 a b := by
  unfold pCut pChange
  rw [if_neg (by rw [ho.2]; decide)]
  cases pfind p.files k with
  | none => exact h
  | some f =>
    dsimp only
    split
    · exact h
    · rw [if_neg (by rw [ho.1]; decide), spend_on' ho]
      refine ⟨by show (pset _ _ _).length ≤ _; rw [len_pset]; exact h.1, Nat.le_trans (total_pset _ _ _ fun f => ?_) h.2.1, h.2.2⟩
      show (f.data.take _).length ≤ _
      rw [List.length_take]; omega
theorem lread_sz (f : Nat) : ∀ (p : PD) (k : Nat) (L : PL), On' p → Sz p a b → Sz (lread f p k L).1 a b := by
  induction f with
  | zero => exact fun _ _ _ _ h => h
  | succ f ih =>
    intro p k L ho h
    unfold lread
    split
    · exact h
    · split
      · exact cut_sz ho h _ _
      · exact ih _ _ _ ho h
theorem lopen_sz (ho : On' p) (h : Sz p a b) (n : Bs) (sz : Nat) : Sz (lopen p n sz).1 a b := by
  have h1 := lread_sz 10 p 0 (PL.new n sz) ho h
  have h2 := total_ldel (lread 10 p 0 (PL.new n sz)).2.name (lread 10 p 0 (PL.new n sz)).2.last (9 - (lread 10 p 0 (PL.new n sz)).2.last) (lread 10 p 0 (PL.new n sz)).1.files
  exact ⟨Nat.le_trans h2.2 h1.1, Nat.le_trans h2.1 h1.2.1, h1.2.2⟩
end
end Go.Proofs.YthnaggmafbhdmaaDoor
