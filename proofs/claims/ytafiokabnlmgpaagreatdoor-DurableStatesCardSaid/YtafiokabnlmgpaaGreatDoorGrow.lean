/- What a disk's calls do to it, over memory: a file comes, a file grows. No condition. -/
import Derived.Test.YtafiokabnlmgpaaGreatDoorNames
namespace Go.Proofs.YtafiokabnlmgpaaGreatDoor
open Go.RowKit Go.Maps

def Fil.pf (f : Fil) : PF := ⟨f.name, f.data, f.lasts⟩
def Dsk.pd (m : Dsk) : PD := ⟨m.room, m.left, m.down, m.files.map Fil.pf⟩

theorem pfind_map (L : List Fil) (k : Bs) : pfind (L.map Fil.pf) k = (L.find? fun f => decide (f.name = k)).map Fil.pf := by
  induction L with
  | nil => rfl
  | cons f t ih =>
    simp only [List.map_cons, pfind, List.find?_cons]
    by_cases e : f.name = k
    · rw [if_pos (show f.pf.name = k from e), decide_eq_true e]; rfl
    · rw [if_neg (show ¬ f.pf.name = k from e), decide_eq_false e, ih]
theorem look_find (L : List Fil) (k : Bs) : look (fsOf L) k = (L.find? fun f => decide (f.name = k)).map (·.blk) := by
  induction L with
  | nil => rfl
  | cons f t ih =>
    simp only [fsOf, List.map_cons, look, List.find?_cons]
    by_cases e : f.name = k
    · rw [if_pos e, decide_eq_true e]; rfl
    · rw [if_neg e, decide_eq_false e]
      exact ih
theorem ptotal_map (L : List Fil) : ptotal (L.map Fil.pf) = total L := by
  induction L with
  | nil => rfl
  | cons f t ih => simp only [List.map_cons, ptotal, total, ih]; rfl

def insFil (x : Fil) : List Fil → List Fil
  | [] => [x]
  | y :: r => if Op.bytesLess x.name y.name then x :: y :: r else y :: insFil x r
theorem insFil_perm (x : Fil) (L : List Fil) : (insFil x L).Perm (x :: L) := by
  induction L with
  | nil => exact List.Perm.refl _
  | cons y r ih =>
    simp only [insFil]
    split
    · exact List.Perm.refl _
    · exact (ih.cons y).trans (List.Perm.swap x y r)
theorem fsOf_ins (x : Fil) (L : List Fil) : fsOf (insFil x L) = insF (x.name, x.blk) (fsOf L) := by
  induction L with
  | nil => rfl
  | cons y r ih =>
    simp only [insFil, fsOf, List.map_cons, insF]
    split
    · rfl
    · simp only [List.map_cons]
      exact congrArg _ ih
theorem pins_map (x : Fil) (L : List Fil) : (insFil x L).map Fil.pf = pins x.pf (L.map Fil.pf) := by
  induction L with
  | nil => rfl
  | cons y r ih =>
    simp only [insFil, List.map_cons, pins]
    split
    · rw [if_pos (by assumption)]; rfl
    · rw [if_neg (by assumption), List.map_cons, ih]
theorem total_perm {L M : List Fil} (h : L.Perm M) : total L = total M := by
  induction h with
  | nil => rfl
  | cons x _ ih => simp only [total, ih]
  | swap x y l => simp only [total]; omega
  | trans _ _ ih1 ih2 => exact ih1.trans ih2
theorem delF_none {fs : Fs} {k : Bs} (h : look fs k = none) : delF fs k = fs := by
  unfold delF
  rw [List.filter_eq_self]
  intro p hp
  induction fs with
  | nil => cases hp
  | cons q t ih =>
    simp only [look] at h
    by_cases e : q.1 = k
    · rw [if_pos e] at h; cases h
    · rw [if_neg e] at h
      rcases List.mem_cons.1 hp with rfl | hp
      · rw [decide_eq_false e]; rfl
      · exact ih h hp

theorem DkIn.insert {w w' : World} {B gd : Nat} {m : Dsk} (h : DkIn w B gd m) {k : Bs} (hk : look (fsOf m.files) k = none) (hn : k.length ≤ 16) (h32 : m.files.length < 32) (hB : B ≤ w.heap.size)
    (hm : Mp w' m.bm (putF (fsOf m.files) k w.heap.size)) (hf : Fr (fun j => j = m.bm) (w.alloc (.cells #[.slice none 0 0, .int .i64 0] 168)) w') :
    DkIn w' B gd { m with files := insFil ⟨k, w.heap.size, none, 0, [], 0⟩ m.files } := by
  have hp := insFil_perm ⟨k, w.heap.size, none, 0, [], 0⟩ m.files
  have fa : Fr (fun j => j = m.bm) w w' := ((Fr.refl (fun j => j = m.bm) w).alloc _).trans hf
  have hnew : Bk w' w.heap.size 168 #[.slice none 0 0, .int .i64 0] := (Bk.new w _ _).fr hf (fun e => by have := h.mp.lt; omega)
  have hfil : ∀ f ∈ m.files, FilIn w' B f := fun f hf' => (h.fil f hf').fr fa (fun e => (h.fil f hf').bk.notMap h.mp e) fun j hj e => own_notMap (h.fil f hf').own h.mp hj e
  refine ⟨h.bk.fr fa (fun e => h.bk.notMap h.mp e), ?_, ?_, ?_, h.bd, h.bb, ?_, h.most, ?_, h.lf⟩
  · show Mp w' m.bm (fsOf (insFil _ _))
    rw [fsOf_ins]
    unfold putF at hm
    rw [delF_none hk] at hm
    exact hm
  · intro f hf'
    rcases List.mem_cons.1 (hp.mem_iff.1 hf') with rfl | hf'
    · exact ⟨hnew, World.ownsRow_nil _ _ _ _, hB, Nat.le_refl _, hn⟩
    · exact hfil f hf'
  · refine (hp.pairwise_iff fun {a b} hab => hab.symm).2 (List.pairwise_cons.2 ⟨fun f hf' => ⟨fun e => ?_, fun j hj => ?_⟩, h.far⟩)
    · have := (h.fil f hf').bk.lt
      have e : w.heap.size = f.blk := e
      omega
    · simp [Fil.sl, Value.ownBlock] at hj
  · show total _ ≤ _
    rw [total_perm hp]
    simp only [total]
    have := h.fits
    simpa using this
  · show (insFil _ _).length ≤ 32
    rw [hp.length_eq, List.length_cons]
    omega

/-- a file with other bytes, in other memory. -/
def Fil.with (f : Fil) (A : Option Addr) (c : Nat) (d : Bs) : Fil := ⟨f.name, f.blk, A, c, d, f.lasts⟩
def setFil (L : List Fil) (k : Bs) (x : Fil) : List Fil := L.map fun g => if g.name = k then x else g
theorem mem_unique {L : List Fil} (hn : (L.map (·.name)).Nodup) {f g : Fil} (hf : f ∈ L) (hg : g ∈ L) (e : g.name = f.name) : g = f := by
  induction L with
  | nil => cases hf
  | cons y t ih =>
    rw [List.map_cons, List.nodup_cons] at hn
    rcases List.mem_cons.1 hf with h1 | h1 <;> rcases List.mem_cons.1 hg with h2 | h2
    · rw [h1, h2]
    · exact absurd (h1 ▸ mem_names h2 e) hn.1
    · exact absurd (h2 ▸ mem_names h1 e.symm) hn.1
    · exact ih hn.2 h1 h2
theorem mem_set {L : List Fil} {k : Bs} {x g : Fil} (h : g ∈ setFil L k x) : g = x ∨ (g ∈ L ∧ g.name ≠ k) := by
  obtain ⟨y, hy, rfl⟩ := List.mem_map.1 h
  by_cases e : y.name = k
  · rw [if_pos e]; exact .inl rfl
  · rw [if_neg e]; exact .inr ⟨hy, e⟩
theorem fsOf_set {L : List Fil} (hn : (L.map (·.name)).Nodup) {f x : Fil} (hf : f ∈ L) (h1 : x.name = f.name) (h2 : x.blk = f.blk) : fsOf (setFil L f.name x) = fsOf L := by
  unfold fsOf setFil
  rw [List.map_map]
  apply List.map_congr_left
  intro g hg
  show (fun f : Fil => (f.name, f.blk)) (if g.name = f.name then x else g) = _
  by_cases e : g.name = f.name
  · rw [if_pos e, mem_unique hn hf hg e]
    show (x.name, x.blk) = (f.name, f.blk)
    rw [h1, h2]
  · rw [if_neg e]
theorem total_set {L : List Fil} (hn : (L.map (·.name)).Nodup) {f x : Fil} (hf : f ∈ L) : total (setFil L f.name x) + f.data.length = total L + x.data.length := by
  induction L with
  | nil => cases hf
  | cons g t ih =>
    rw [List.map_cons, List.nodup_cons] at hn
    unfold setFil at ih ⊢
    simp only [List.map_cons, total]
    rcases List.mem_cons.1 hf with rfl | hf
    · rw [if_pos rfl]
      have e : t.map (fun g => if g.name = f.name then x else g) = t := by
        conv => rhs; rw [← List.map_id t]
        apply List.map_congr_left
        intro y hy
        rw [if_neg fun e => hn.1 (mem_names hy e)]; rfl
      rw [e]; omega
    · rw [if_neg fun e => hn.1 (mem_names hf e.symm)]
      have := ih hn.2 hf
      omega
theorem pset_map {L : List Fil} (hn : (L.map (·.name)).Nodup) {f x : Fil} (hf : f ∈ L) (h : PF → PF) (hx : x.pf = h f.pf) : (setFil L f.name x).map Fil.pf = pset (L.map Fil.pf) f.name h := by
  unfold setFil pset
  rw [List.map_map, List.map_map]
  apply List.map_congr_left
  intro g hg
  show Fil.pf (if g.name = f.name then x else g) = if g.pf.name = f.name then h g.pf else g.pf
  by_cases e : g.name = f.name
  · rw [if_pos e, if_pos (show g.pf.name = f.name from e), mem_unique hn hf hg e, hx]
  · rw [if_neg e, if_neg (show ¬ g.pf.name = f.name from e)]

/-- a file's cells and row have turned, nothing else of the disk. -/
theorem DkIn.turn {w w' : World} {B gd : Nat} {m : Dsk} (h : DkIn w B gd m) {f x : Fil} (hf : f ∈ m.files) (h1 : x.name = f.name) (h2 : x.blk = f.blk)
    (hw : Fr (fun k => k = f.blk ∨ f.sl.ownBlock = some k) w w') (hx : FilIn w' B x) (hb : x.sl.ownBlock = f.sl.ownBlock ∨ x.sl.ownBlock = none ∨ ∃ k, x.sl.ownBlock = some k ∧ w.heap.size ≤ k)
    (hfit : total m.files + x.data.length ≤ m.room + f.data.length) : DkIn w' B gd { m with files := setFil m.files f.name x } := by
  have hfi := h.fil f hf
  have hother : ∀ g ∈ m.files, g.name ≠ f.name → Far g f := fun g hg e => by
    obtain ⟨i, hi, rfl⟩ := List.getElem_of_mem hg
    obtain ⟨j, hj, rfl⟩ := List.getElem_of_mem hf
    have hp := List.pairwise_iff_getElem.1 h.far
    rcases Nat.lt_trichotomy i j with hl | rfl | hl
    · exact hp i j hi hj hl
    · exact absurd rfl e
    · exact (hp j i hj hi hl).symm
  have hpart : ∀ g ∈ m.files, g.name ≠ f.name → Far g x := fun g hg e => by
    have hgf := hother g hg e
    refine ⟨by rw [h2]; exact hgf.1, fun k hk => ?_⟩
    rcases hb with hb | hb | ⟨j, hb, hj⟩
    · rw [hb]; exact hgf.2 k hk
    · rw [hb]; intro e; cases e
    · rw [hb]
      intro e
      injection e with e
      have := (own_lt (h.fil g hg).own hk).2
      omega
  refine ⟨h.bk.fr hw ?_, ?_, ?_, ?_, h.bd, h.bb, ?_, h.most, ?_, h.lf⟩
  · rintro (e | e)
    · exact Bk.apart h.bk hfi.bk (by decide) e
    · exact own_apart hfi.own h.bk (by decide) e
  · show Mp w' m.bm (fsOf (setFil _ _ _))
    rw [fsOf_set h.nodup hf h1 h2]
    refine h.mp.fr hw ?_
    rintro (e | e)
    · exact hfi.bk.notMap h.mp e.symm
    · exact own_notMap hfi.own h.mp e rfl
  · intro g hg
    rcases mem_set hg with rfl | ⟨hg, e⟩
    · exact hx
    · have hgf := hother g hg e
      have hgi := h.fil g hg
      refine hgi.fr hw ?_ fun k hk => ?_
      · rintro (e | e)
        · exact hgf.1 e
        · exact own_apart hfi.own hgi.bk (by decide) e
      · rintro (e | e)
        · exact own_apart hgi.own hfi.bk (by decide) (e ▸ hk)
        · exact hgf.2 k hk e
  · show (setFil _ _ _).Pairwise Far
    unfold setFil
    rw [List.pairwise_map]
    have hnd : m.files.Pairwise fun a b => a.name ≠ b.name := by have := h.nodup; rwa [List.Nodup, List.pairwise_map] at this
    refine ((h.far.and hnd).imp_of_mem fun {a b} ha hb' hab => ?_)
    by_cases ea : a.name = f.name
    · have eb : b.name ≠ f.name := fun e => hab.2 (ea.trans e.symm)
      rw [if_pos ea, if_neg eb]
      exact (hpart b hb' eb).symm
    · rw [if_neg ea]
      by_cases eb : b.name = f.name
      · rw [if_pos eb]; exact hpart a ha ea
      · rw [if_neg eb]; exact hab.1
  · show total (setFil _ _ _) ≤ m.room
    have := total_set h.nodup (x := x) hf
    have := h.fits
    omega
  · show (setFil _ _ _).length ≤ 32
    unfold setFil
    rw [List.length_map]
    exact h.few
end Go.Proofs.YtafiokabnlmgpaaGreatDoor
