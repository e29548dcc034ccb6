/- What the calls of a log leave alone: files of other names. Plain mathematics. Condition: the disk's power has no end. The names of a disk's files are among a few: how many files there are behind a log's calls, and that an Append that fits is not refused. Plain mathematics. Condition: the disk's power has no end. Two logs and a file beside them on one disk: what each call of one leaves of the other. Plain mathematics. Condition: the disk's power has no end. Two logs and a file beside them: how they begin, and the file behind a crash. Plain mathematics. Condition: the disk's power has no end. Two logs on one disk, as the world holds them; the disk with a file beside them. No condition. -/
import Derived.Test.YthnaggmafbhdmaaDoorSz
import Derived.Test.YthnaggmafbhdmaaDoorKeepP
import Derived.Test.YthnaggmafbhdmaaDoorLaw
import Derived.Test.YthnaggmafbhdmaaDoorOpen2
namespace Go.Proofs.YthnaggmafbhdmaaDoor
open Go.RowKit Go.Maps

/-- a name that is none of a log's files. -/
def NotOf (n k : Bs) : Prop := ∀ i, i ≤ 9 → k ≠ lfile n i
def SameO (p q : PD) (n : Bs) : Prop := ∀ k, NotOf n k → pfind q.files k = pfind p.files k
theorem SameO.refl (p : PD) (n : Bs) : SameO p p n := fun _ _ => rfl
theorem SameO.trans {p q r : PD} {n : Bs} (h : SameO p q n) (h2 : SameO q r n) : SameO p r n := fun k hk => (h2 k hk).trans (h k hk)
theorem same_pset {p : PD} {n : Bs} {i : Nat} (hi : i ≤ 9) (a : PF → PF) (ha : ∀ f, (a f).name = f.name) : SameO p { p with files := pset p.files (lfile n i) a } n := fun k hk => by
  show pfind (pset _ _ _) k = _
  rw [find_set _ _ _ ha]
  cases pfind p.files k with
  | none => rfl
  | some f => rw [Option.map_some, if_neg (hk i hi)]
theorem lsync_same {p : PD} {L : PL} (ho : On' p) (hl : L.last ≤ 9) : SameO p (lsync p L).1 L.name := by
  unfold lsync
  split
  · unfold pSync pChange
    rw [if_neg (by rw [ho.2]; decide)]
    cases pfind p.files (lfile L.name L.last) with
    | none => exact SameO.refl _ _
    | some f =>
      dsimp only
      rw [if_neg (by decide), if_neg (by rw [ho.1]; decide), spend_on' ho]
      exact same_pset hl (fun g => { g with last := g.data.length }) fun _ => rfl
  · exact SameO.refl _ _
theorem lput_same {p : PD} {L : PL} (ho : On' p) (hnm : 0 < L.name.length ∧ L.name.length ≤ 8) {part : Nat} (hl : part ≤ 9) (used : Nat) (r : Bs) : SameO p (lput p L part used r).1 L.name := by
  rcases append_on ho (d := frameOf r) (lfile_nm hnm part) with e | ⟨e, _⟩
  · unfold lput
    rw [e]
    intro k hk
    show pfind (pput _ _ _) k = _
    rw [find_put, if_neg (hk part hl)]
  · unfold lput
    rw [e]
    exact SameO.refl _ _
theorem lappend_same {p : PD} {L : PL} (ho : On' p) (hnm : 0 < L.name.length ∧ L.name.length ≤ 8) (hl : L.last ≤ 9) (r : Bs) : SameO p (lappend p L r).1 L.name := by
  unfold lappend
  split
  · split
    · exact SameO.refl _ _
    · rename_i h9
      split
      · have h1 := lsync_same (L := L) ho hl
        have e : (lsync p L).2.1.name = L.name := by unfold lsync; split <;> rfl
        have h2 := lput_same (L := (lsync p L).2.1) (lsync_on (L := L) ho).1 (by rw [e]; exact hnm) (part := L.last + 1) (by omega) 0 r
        rw [e] at h2
        exact h1.trans h2
      · exact lsync_same (L := L) ho hl
  · exact lput_same ho hnm hl _ r
theorem cut_same {p : PD} {n : Bs} {i : Nat} (hi : i ≤ 9) (ho : On' p) (m : Int) : SameO p (pCut p (lfile n i) m).1 n := by
  unfold pCut pChange
  rw [if_neg (by rw [ho.2]; decide)]
  cases pfind p.files (lfile n i) with
  | none => exact SameO.refl _ _
  | some f =>
    dsimp only
    split
    · exact SameO.refl _ _
    · rw [if_neg (by rw [ho.1]; decide), spend_on' ho]
      exact same_pset hi (fun g => { g with data := g.data.take m.toNat, last := min g.last m.toNat }) fun _ => rfl
theorem lread_same (f : Nat) : ∀ (p : PD) (k : Nat) (L : PL), On' p → f + k ≤ 10 → SameO p (lread f p k L).1 L.name := by
  induction f with
  | zero => exact fun _ _ _ _ _ => SameO.refl _ _
  | succ f ih =>
    intro p k L ho hk
    unfold lread
    split
    · exact SameO.refl _ _
    · rename_i x hx
      split
      · exact cut_same (by omega) ho _
      · exact ih p (k + 1) (L.got k (parse x.data)) ho (by omega)
theorem ldel_same (n : Bs) (last : Nat) : ∀ (f : Nat) (M : List PF) (k : Bs), last + f ≤ 9 → NotOf n k → pfind (ldel n last f M) k = pfind M k := by
  intro f
  induction f with
  | zero => exact fun _ _ _ _ => rfl
  | succ f ih =>
    intro M k hf hk
    unfold ldel
    rw [ih _ k (by omega) hk, find_del, if_neg (hk _ (by omega))]
end Go.Proofs.YthnaggmafbhdmaaDoor

namespace Go.Proofs.YthnaggmafbhdmaaDoor
open Go.RowKit Go.Maps

/-- the files' names are among K; no more bytes than b. -/
def Few (p : PD) (K : List Bs) (b : Nat) : Prop := (∀ x ∈ p.files.map (·.name), x ∈ K) ∧ ptotal p.files ≤ b ∧ p.room = 1048576
theorem few_len : ∀ (N K : List Bs), N.Nodup → (∀ x ∈ N, x ∈ K) → N.length ≤ K.length := by
  intro N
  induction N with
  | nil => exact fun _ _ _ => Nat.zero_le _
  | cons x t ih =>
    intro K hn hs
    rw [List.nodup_cons] at hn
    have hx := hs x (.head _)
    have h1 := ih (K.erase x) hn.2 fun y hy => (List.mem_erase_of_ne (fun e : y = x => hn.1 (by rw [← e]; exact hy))).2 (hs y (.tail _ hy))
    rw [List.length_erase_of_mem hx] at h1
    have h2 := List.length_pos_of_mem hx
    rw [List.length_cons]
    omega
theorem mem_pins (x : PF) (L : List PF) : ∀ k ∈ (pins x L).map (·.name), k = x.name ∨ k ∈ L.map (·.name) := by
  induction L with
  | nil =>
    intro k hk
    rcases List.mem_cons.1 hk with e | e
    · exact .inl e
    · exact .inr e
  | cons y r ih =>
    intro k hk
    unfold pins at hk
    split at hk
    · rcases List.mem_cons.1 hk with e | e
      · exact .inl e
      · exact .inr e
    · rcases List.mem_cons.1 hk with e | e
      · exact .inr (e ▸ .head _)
      · rcases ih k e with e2 | e2
        · exact .inl e2
        · exact .inr (.tail _ e2)
theorem put_names (L : List PF) (k d : Bs) : ∀ x ∈ (pput L k d).map (·.name), x = k ∨ x ∈ L.map (·.name) := by
  intro x hx
  unfold pput at hx
  cases hf : pfind L k with
  | some f =>
    rw [hf] at hx
    dsimp only at hx
    rw [names_set L k (fun g => { g with data := g.data ++ d }) fun _ => rfl] at hx
    exact .inr hx
  | none =>
    rw [hf] at hx
    dsimp only at hx
    rw [names_set _ k (fun g => { g with data := g.data ++ d }) fun _ => rfl] at hx
    exact mem_pins _ _ x hx
section
variable {p : PD} {L : PL} {K : List Bs} {b : Nat}
theorem Few.len (h : Few p K b) (hn : (p.files.map (·.name)).Nodup) : p.files.length ≤ K.length := by
  have := few_len _ K hn h.1
  rwa [List.length_map] at this
theorem lput_few (ho : On' p) (hnm : 0 < L.name.length ∧ L.name.length ≤ 8) (hn : (p.files.map (·.name)).Nodup) (h : Few p K b) (part used : Nat) (r : Bs) (hk : lfile L.name part ∈ K) (hK : K.length < 32) (hb : b + (6 + r.length) ≤ 1048576) :
    Few (lput p L part used r).1 K (b + (6 + r.length)) ∧ (lput p L part used r).2.2 = 0 := by
  have hps := put_sz p.files hn (lfile L.name part) (frameOf r)
  rw [frameOf_len] at hps
  have hl := h.len hn
  rcases append_on ho (d := frameOf r) (lfile_nm hnm part) with e | ⟨e, hr⟩
  · unfold lput
    rw [e]
    refine ⟨⟨?_, ?_, h.2.2⟩, rfl⟩
    · intro x hx
      rcases put_names p.files _ _ x hx with e2 | e2
      · exact e2 ▸ hk
      · exact h.1 x e2
    · show ptotal (pput _ _ _) ≤ _
      have := h.2.1; omega
  · exfalso
    have h2 := h.2.1
    have h3 := h.2.2
    rw [frameOf_len] at hr
    rcases hr with hr | hr
    · omega
    · omega
/-- an Append that fits into the log's part, on a disk with few files and room. -/
theorem lappend_few (ho : On' p) (hnm : 0 < L.name.length ∧ L.name.length ≤ 8) (hn : (p.files.map (·.name)).Nodup) (h : Few p K b) (r : Bs) (hk : lfile L.name L.last ∈ K) (hK : K.length < 32) (hb : b + (6 + r.length) ≤ 1048576) (hu : L.used + (6 + r.length) ≤ L.size) :
    lappend p L r = lput p L L.last L.used r ∧ Few (lappend p L r).1 K (b + (6 + r.length)) ∧ (lappend p L r).2.2 = 0 := by
  have e : lappend p L r = lput p L L.last L.used r := if_neg (by rw [frameOf_len]; omega)
  rw [e]
  exact ⟨rfl, lput_few ho hnm hn h L.last L.used r hk hK hb⟩
theorem lsync_few (ho : On' p) (h : Few p K b) : Few (lsync p L).1 K b := by
  refine ⟨?_, ?_⟩
  · rw [(lsync_on (L := L) ho).2]
    exact h.1
  · have h1 : Sz p p.files.length b := ⟨Nat.le_refl _, h.2.1, h.2.2⟩
    exact (lsync_sz (L := L) ho h1).2
theorem cut_few (ho : On' p) (h : Few p K b) (k : Bs) (n : Int) : Few (pCut p k n).1 K b := by
  have h1 : Sz p p.files.length b := ⟨Nat.le_refl _, h.2.1, h.2.2⟩
  refine ⟨?_, (cut_sz ho h1 k n).2⟩
  unfold pCut pChange
  rw [if_neg (by rw [ho.2]; decide)]
  cases pfind p.files k with
  | none => exact h.1
  | some f =>
    dsimp only
    split
    · exact h.1
    · rw [if_neg (by rw [ho.1]; decide), spend_on' ho]
      show ∀ x ∈ (pset _ _ _).map _, _
      rw [names_set _ k (fun g : PF => { g with data := g.data.take n.toNat, last := min g.last n.toNat }) fun _ => rfl]
      exact h.1
theorem lread_few (f : Nat) : ∀ (p : PD) (k : Nat) (L : PL), On' p → Few p K b → Few (lread f p k L).1 K b := by
  induction f with
  | zero => exact fun _ _ _ _ h => h
  | succ f ih =>
    intro p k L ho h
    unfold lread
    split
    · exact h
    · split
      · exact cut_few ho h _ _
      · exact ih _ _ _ ho h
theorem ldel_names (n : Bs) (last : Nat) : ∀ (f : Nat) (M : List PF), ∀ x ∈ (ldel n last f M).map (·.name), x ∈ M.map (·.name) := by
  intro f
  induction f with
  | zero => exact fun _ _ h => h
  | succ f ih =>
    intro M x hx
    obtain ⟨g, hg, e⟩ := List.mem_map.1 (ih _ x hx)
    exact List.mem_map.2 ⟨g, (List.mem_filter.1 hg).1, e⟩
theorem lopen_few (ho : On' p) (h : Few p K b) (n : Bs) (sz : Nat) : Few (lopen p n sz).1 K b := by
  have h1 := lread_few 10 p 0 (PL.new n sz) ho h
  have h2 := total_ldel (lread 10 p 0 (PL.new n sz)).2.name (lread 10 p 0 (PL.new n sz)).2.last (9 - (lread 10 p 0 (PL.new n sz)).2.last) (lread 10 p 0 (PL.new n sz)).1.files
  exact ⟨fun x hx => h1.1 x (ldel_names _ _ _ _ x hx), Nat.le_trans h2.1 h1.2.1, h1.2.2⟩
end
end Go.Proofs.YthnaggmafbhdmaaDoor

namespace Go.Proofs.YthnaggmafbhdmaaDoor
open Go.RowKit Go.Maps

theorem notof_len {n m : Bs} (hl : n.length = m.length) (hne : m ≠ n) (i : Nat) : NotOf n (lfile m i) := fun j _ e => by
  unfold lfile at e
  exact hne (List.append_inj e hl.symm).1
theorem LInv.others {p q : PD} {L : PL} {init : List (List Bs)} {cur : List Bs} {s : Nat} {n : Bs} (h : LInv p L init cur s) (hs : SameO p q n) (ho : On' q) (hn : ∀ i, NotOf n (lfile L.name i)) : LInv q L init cur s where
  on := ho
  nm := h.nm
  last := h.last
  le9 := h.le9
  full := fun i rs hi => by rw [hs _ (hn i)]; exact h.full i rs hi
  curF := by
    rw [hs _ (hn 0), hs _ (hn init.length)]
    exact h.curF
  up := fun i h1 h2 => by rw [hs _ (hn i)]; exact h.up i h1 h2
  recs := h.recs
  used := h.used
  short := h.short
  sle := h.sle
  wt := h.wt
theorem Files.others {x y : PD} {n m : Bs} {init : List (List Bs)} {cur : List Bs} {k0 : Nat} (h : Files x m init cur k0) (hs : SameO x y n) (ho : On' y) (hn : ∀ i, NotOf n (lfile m i)) : Files y m init cur k0 where
  on := ho
  nm := h.nm
  le9 := h.le9
  full := fun i rs hi => by rw [hs _ (hn i)]; exact h.full i rs hi
  curF := by
    rw [hs _ (hn 0), hs _ (hn init.length)]
    exact h.curF
  up := fun i h1 h2 => by rw [hs _ (hn i)]; exact h.up i h1 h2
  short := h.short
  le := h.le
/-- two logs of one part each, and a file that is neither's. -/
structure Bes (p : PD) (X Y : PL) (xs ys : List Bs) (s t : Nat) (K : List Bs) (b : Nat) (f : PF) : Prop where
  x : LInv p X [] xs s
  y : LInv p Y [] ys t
  len : X.name.length = Y.name.length
  ne : X.name ≠ Y.name
  szx : X.size = 65536
  szy : Y.size = 65536
  few : Few p K b
  kx : lfile X.name 0 ∈ K
  ky : lfile Y.name 0 ∈ K
  kl : K.length < 32
  oth : pfind p.files f.name = some f
  fx : NotOf X.name f.name
  fy : NotOf Y.name f.name
section
variable {p : PD} {X Y : PL} {xs ys : List Bs} {s t : Nat} {K : List Bs} {b : Nat} {f : PF}
theorem Bes.swap (h : Bes p X Y xs ys s t K b f) : Bes p Y X ys xs t s K b f :=
  ⟨h.y, h.x, h.len.symm, h.ne.symm, h.szy, h.szx, h.few, h.ky, h.kx, h.kl, h.oth, h.fy, h.fx⟩
theorem Bes.last (h : Bes p X Y xs ys s t K b f) : X.last = 0 := h.x.last
/-- an Append to one of them. -/
theorem Bes.put (h : Bes p X Y xs ys s t K b f) (hn : (p.files.map (·.name)).Nodup) (r : Bs) (hr : r.length ≤ 1000) (hu : (frames xs).length + (6 + r.length) ≤ 65536) (hb : b + (6 + r.length) ≤ 1048576) :
    (lappend p X r).2.2 = 0 ∧ Bes (lappend p X r).1 (lappend p X r).2.1 Y (xs ++ [r]) ys s t K (b + (6 + r.length)) f := by
  have hk : lfile X.name X.last ∈ K := by rw [h.last]; exact h.kx
  obtain ⟨e, hf, h0⟩ := lappend_few h.x.on h.x.nm hn h.few r hk h.kl hb (by rw [h.x.used, h.szx]; exact hu)
  have hs := lappend_same (L := X) h.x.on h.x.nm (by rw [h.last]; omega) r
  refine ⟨h0, ?_⟩
  rw [e] at h0 hf hs ⊢
  have hi : LInv (lput p X X.last X.used r).1 (lput p X X.last X.used r).2.1 [] (xs ++ [r]) s := by
    rcases lput_inv h.x r (by omega) with e2 | ⟨_, e2⟩
    · rw [e2] at h0
      cases h0
    · exact e2
  have hnm := (lput_name p X X.last X.used r).1
  have hsz : (lput p X X.last X.used r).2.1.size = X.size := by unfold lput; split <;> rfl
  exact ⟨hi, h.y.others hs hi.on (notof_len h.len h.ne.symm), by rw [hnm]; exact h.len, by rw [hnm]; exact h.ne, hsz.trans h.szx, h.szy, hf, by rw [hnm]; exact h.kx, h.ky, h.kl, (hs _ h.fx).trans h.oth, by rw [hnm]; exact h.fx, h.fy⟩
/-- a Sync of one of them. -/
theorem Bes.sync (h : Bes p X Y xs ys s t K b f) :
    (lsync p X).2.2 = 0 ∧ Bes (lsync p X).1 (lsync p X).2.1 Y xs ys xs.length t K b f := by
  obtain ⟨e0, hi, _⟩ := lsync_inv h.x
  have hs := lsync_same (L := X) h.x.on (by rw [h.last]; omega)
  have hnm := (lsync_name p X).1
  have hsz : (lsync p X).2.1.size = X.size := by unfold lsync; split <;> rfl
  exact ⟨e0, hi, h.y.others hs hi.on (notof_len h.len h.ne.symm), by rw [hnm]; exact h.len, by rw [hnm]; exact h.ne, hsz.trans h.szx, h.szy, lsync_few h.x.on h.few, by rw [hnm]; exact h.kx, h.ky, h.kl, (hs _ h.fx).trans h.oth, by rw [hnm]; exact h.fx, h.fy⟩
theorem lopen_same {q : PD} (ho : On' q) (n : Bs) (sz : Nat) (hl : (lopen q n sz).2.last ≤ 9) (hnm : (lopen q n sz).2.name = n) : SameO q (lopen q n sz).1 n := by
  have h1 := lread_same 10 q 0 (PL.new n sz) ho (Nat.le_refl _)
  intro k hk
  have h2 : (lread 10 q 0 (PL.new n sz)).2.name = n := hnm
  have h3 : (lread 10 q 0 (PL.new n sz)).2.last ≤ 9 := hl
  show pfind (ldel _ _ _ _) k = _
  rw [h2, ldel_same n _ _ _ k (by omega) hk]
  exact h1 k hk
/-- both are opened again behind a crash: each has the records that were synced, and the other's files are as they were. -/
theorem Bes.again (h : Bes p X Y xs ys xs.length ys.length K b f) (ks : List Int) :
    (lopen (pCrash p ks) X.name 65536).2.recs = X.recs ∧ (lopen (lopen (pCrash p ks) X.name 65536).1 Y.name 65536).2.recs = Y.recs := by
  obtain ⟨j, hj, hj2, hi, hnm, _⟩ := h.x.again ks 65536
  have ej : j = xs.length := Nat.le_antisymm hj2 hj
  subst ej
  rw [List.take_length] at hi
  refine ⟨hi.recs.trans h.x.recs.symm, ?_⟩
  obtain ⟨k0, hF, hk⟩ := h.y.crash ks
  have hon : On' (pCrash p ks) := hF.on
  have hs := lopen_same hon X.name 65536 (by rw [hi.last]; exact hi.le9) hnm
  obtain ⟨j2, hle, hm, hi2, _⟩ := (hF.others hs hi.on (notof_len h.len h.ne.symm)).open_ 65536
  have e2 : j2 = ys.length := Nat.le_antisymm hle (hm ys.length (Nat.le_refl _) hk)
  subst e2
  rw [List.take_length] at hi2
  exact hi2.recs.trans h.y.recs.symm
end
end Go.Proofs.YthnaggmafbhdmaaDoor

namespace Go.Proofs.YthnaggmafbhdmaaDoor
open Go.RowKit Go.Maps

/-- a log opened on a disk without files of its name leaves every file as it is. -/
theorem open_fresh {p : PD} {n : Bs} (ho : On' p) (hn : 0 < n.length ∧ n.length ≤ 8) (h : ∀ i, i ≤ 9 → pfind p.files (lfile n i) = none) :
    LInv (lopen p n 65536).1 (lopen p n 65536).2 [] [] 0 ∧ (lopen p n 65536).2.name = n ∧ (lopen p n 65536).2.size = 65536 ∧ SameO p (lopen p n 65536).1 n := by
  obtain ⟨j, hj, _, hi, hnm, _, hsz, _⟩ := (Files.none_ ho hn h).open_ 65536
  have e : j = 0 := Nat.le_zero.1 hj
  subst e
  exact ⟨hi, hnm, hsz, lopen_same ho n 65536 (by rw [hi.last]; exact hi.le9) hnm⟩
/-- both logs are new. -/
theorem bes_new {p : PD} {n m : Bs} {K : List Bs} {b : Nat} {f : PF} (ho : On' p) (hn : 0 < n.length ∧ n.length ≤ 8) (hm : 0 < m.length ∧ m.length ≤ 8) (hl : n.length = m.length) (hne : n ≠ m)
    (hx : ∀ i, i ≤ 9 → pfind p.files (lfile n i) = none) (hy : ∀ i, i ≤ 9 → pfind p.files (lfile m i) = none) (hf : Few p K b) (kx : lfile n 0 ∈ K) (ky : lfile m 0 ∈ K) (kl : K.length < 32) (ot : pfind p.files f.name = some f) (fx : NotOf n f.name) (fy : NotOf m f.name) :
    Bes (lopen (lopen p n 65536).1 m 65536).1 (lopen p n 65536).2 (lopen (lopen p n 65536).1 m 65536).2 [] [] 0 0 K b f := by
  obtain ⟨h1, n1, s1, o1⟩ := open_fresh ho hn hx
  have hy2 : ∀ i, i ≤ 9 → pfind (lopen p n 65536).1.files (lfile m i) = none := fun i h => by rw [o1 _ (notof_len hl hne.symm i)]; exact hy i h
  obtain ⟨h2, n2, s2, o2⟩ := open_fresh h1.on hm hy2
  exact ⟨h1.others o2 h2.on (by rw [n1]; exact notof_len hl.symm hne), h2, by rw [n1, n2]; exact hl, by rw [n1, n2]; exact hne, s1, s2, lopen_few h1.on (lopen_few ho hf n 65536) m 65536, by rw [n1]; exact kx, by rw [n2]; exact ky, kl, (o2 _ fy).trans ((o1 _ fx).trans ot), by rw [n1]; exact fx, by rw [n2]; exact fy⟩
section
variable {p : PD} {X Y : PL} {xs ys : List Bs} {K : List Bs} {b : Nat} {f : PF}
/-- the file is as it was when both are opened again behind a crash. -/
theorem Bes.file {n d : Bs} (h : Bes p X Y xs ys xs.length ys.length K b ⟨n, d, d.length⟩) (ks : List Int) :
    pRead (lopen (lopen (pCrash p ks) X.name 65536).1 Y.name 65536).1 n = (d, 0) := by
  obtain ⟨j, hj, hj2, hi, hnm, _⟩ := h.x.again ks 65536
  obtain ⟨k0, hF, hk⟩ := h.y.crash ks
  have hs := lopen_same hF.on X.name 65536 (by rw [hi.last]; exact hi.le9) hnm
  obtain ⟨j2, _, _, hi2, hnm2, _⟩ := (hF.others hs hi.on (notof_len h.len h.ne.symm)).open_ 65536
  have hs2 := lopen_same hi.on Y.name 65536 (by rw [hi2.last]; exact hi2.le9) hnm2
  obtain ⟨z, hz⟩ := (find_crash p.files ks n).2 _ h.oth
  rw [crash_full] at hz
  have hg : pfind (lopen (lopen (pCrash p ks) X.name 65536).1 Y.name 65536).1.files n = some ⟨n, d, d.length⟩ := (hs2 _ h.fy).trans ((hs _ h.fx).trans hz)
  unfold pRead
  rw [if_neg (by rw [hi2.on.2]; decide), hg]
end
end Go.Proofs.YthnaggmafbhdmaaDoor

namespace Go.Proofs.YthnaggmafbhdmaaDoor
open Go.RowKit Go.Maps

/-- on the disk p behind gd two logs lie, X behind gx and Y behind gy, in memory of their own. -/
def Two (w1 wr : World) (gd gx gy : Nat) (p : PD) (X Y : PL) : Prop := ∃ h : Lg, h.pl = Y ∧ LgIn wr w1.heap.size gd gy h ∧ WL w1 wr gd p gx X (LBlks gy h)
section
variable {w1 wr w' : World} {gd gx gy : Nat} {p p' : PD} {X X' Y : PL}
theorem Two.swap (h : Two w1 wr gd gx gy p X Y) : Two w1 wr gd gy gx p Y X := by
  obtain ⟨h, hY, hl, ⟨g, hX, hg, ha, hs, ht⟩⟩ := h
  exact ⟨g, hX, hg, ⟨h, hY, hl, ha.prot (Fr.refl NoBlk _) (fun _ _ h => h.elim) fun k hk => .inl (hk.elim .inr .inl), fun k hk hk' => hs k hk' hk, fun k hk => (hg.blk hk).2⟩⟩
theorem Two.fr (h : Two w1 wr gd gx gy p X Y) : Fr NoBlk w1 wr := let ⟨_, _, _, hw⟩ := h; hw.fr
theorem Two.nofr (h : Two w1 wr gd gx gy p X Y) (hf : Fr NoBlk wr w') : Two w1 w' gd gx gy p X Y :=
  let ⟨h, hY, hl, hw⟩ := h
  ⟨h, hY, hl.fr hf fun _ _ h => h, hw.nofr hf⟩
theorem Two.fits (h : Two w1 wr gd gx gy p X Y) : (p.files.map (·.name)).Nodup := by
  obtain ⟨_, _, _, ⟨g, _, _, ha, _⟩⟩ := h
  exact ha.fits.2.2.2.1
end
def othN : Bs := [111, 116, 104, 101, 114]
def othD : Bs := [102, 105, 108, 101]
def pOth : PD := ⟨1048576, -1, false, [⟨othN, othD, 4⟩]⟩
def xN : Bs := [120]
def yN : Bs := [121]
theorem oth_append : pAppend (pNew 1048576) othN othD = (⟨1048576, -1, false, [⟨othN, othD, 0⟩]⟩, 0) := by
  simp [pAppend, pNew, othN, othD, isNm, pfind, ptotal, pspend, pspendE, pput, pset, pins]
theorem oth_sync : pSync ⟨1048576, -1, false, [⟨othN, othD, 0⟩]⟩ othN = (pOth, 0) := by
  simp [pSync, pChange, pOth, othN, othD, pfind, pset, pspend]
theorem oth_new : Bes (lopen (lopen pOth xN 65536).1 yN 65536).1 (lopen pOth xN 65536).2 (lopen (lopen pOth xN 65536).1 yN 65536).2 [] [] 0 0 [othN, lfile xN 0, lfile yN 0] 4 ⟨othN, othD, othD.length⟩ := by
  have no : ∀ n : Bs, n.length = 1 → NotOf n othN := fun n hn i _ e => by
    have := congrArg List.length e
    rw [lfile_len, hn] at this
    simp [othN] at this
  have nx : ∀ n : Bs, n.length = 1 → ∀ i, i ≤ 9 → pfind pOth.files (lfile n i) = none := fun n hn i hi => by
    show pfind [⟨othN, othD, 4⟩] _ = _
    unfold pfind
    rw [if_neg (no n hn i hi)]
    rfl
  exact bes_new ⟨rfl, rfl⟩ (by simp [xN]) (by simp [yN]) rfl (by simp [xN, yN]) (nx xN rfl) (nx yN rfl)
    ⟨by simp [pOth, othN], by simp [pOth, ptotal, othD], rfl⟩ (by simp) (by simp) (by simp) (by simp [pOth, pfind, othD]) (no xN rfl) (no yN rfl)
theorem oth_first : On' (lopen pOth xN 65536).1 ∧ (lopen pOth xN 65536).2.name = xN := by
  have no : ∀ n : Bs, n.length = 1 → NotOf n othN := fun n hn i _ e => by
    have := congrArg List.length e
    rw [lfile_len, hn] at this
    simp [othN] at this
  obtain ⟨h1, n1, _, _⟩ := open_fresh (p := pOth) (n := xN) ⟨rfl, rfl⟩ (by simp [xN]) fun i hi => by
    show pfind [⟨othN, othD, 4⟩] _ = _
    unfold pfind
    rw [if_neg (no xN rfl i hi)]
    rfl
  exact ⟨h1.on, n1⟩
theorem lread_name (f : Nat) : ∀ (p : PD) (k : Nat) (L : PL), (lread f p k L).2.name = L.name := by
  induction f with
  | zero => exact fun _ _ _ => rfl
  | succ f ih =>
    intro p k L
    unfold lread
    split
    · rfl
    · split
      · rfl
      · rw [ih]; rfl
theorem lopen_name (p : PD) (n : Bs) (sz : Nat) : (lopen p n sz).2.name = n := lread_name 10 p 0 (PL.new n sz)
/-- between two rounds. -/
def BR (w1 wr : World) (gd gx gy i : Nat) : Prop := ∃ p X Y xs ys b, Two w1 wr gd gx gy p X Y ∧ Bes p X Y xs ys 0 0 [othN, lfile xN 0, lfile yN 0] b ⟨othN, othD, othD.length⟩ ∧ X.name = xN ∧ Y.name = yN ∧ (frames xs).length ≤ 1006 * i ∧ (frames ys).length ≤ 1006 * i ∧ b ≤ 4 + 2012 * i
theorem Bes.recs {p : PD} {X Y : PL} {xs ys : List Bs} {s t : Nat} {K : List Bs} {b : Nat} {f : PF} (h : Bes p X Y xs ys s t K b f) : X.recs.length ≤ (frames xs).length ∧ X.used = (frames xs).length := by
  have h1 := frames_len xs
  have h2 : X.recs = xs := by rw [h.x.recs]; rfl
  refine ⟨by rw [h2]; omega, h.x.used⟩
theorem frames_snoc (xs : List Bs) (r : Bs) : (frames (xs ++ [r])).length = (frames xs).length + (6 + r.length) := by
  rw [frames_append, List.length_append, frames_one, frameOf_len]
theorem strBs (w : World) (A : Option Addr) (n c : Nat) (l : List UInt8) (hn : n = l.length) (hr : Rd w A (cb l)) :
    (convert 34 9 (.slice A n c)).run Tryd.prog w = .ok (.string (bstr l)) w :=
  run_str w _ _ 5 Tryd.underlying34 Tryd.underlying5 Tryd.underlying9 A c l n hn hr
def OldS (w : World) : Nat → Prop := fun k => k < w.heap.size
end Go.Proofs.YthnaggmafbhdmaaDoor
