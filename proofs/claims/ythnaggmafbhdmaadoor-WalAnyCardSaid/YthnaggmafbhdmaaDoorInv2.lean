/- A log that is opened behind a crash, or again. Plain mathematics. Conditions: the disk's power has no end; records are no longer than a frame takes. -/
import Derived.Test.YthnaggmafbhdmaaDoorInv
import Derived.Test.YthnaggmafbhdmaaDoorLOpen
namespace Go.Proofs.YthnaggmafbhdmaaDoor
open Go.RowKit Go.Maps

theorem lread_step {f k : Nat} {p : PD} {L : PL} {x : PF} (hf : pfind p.files (lfile L.name k) = some x) (hw : ¬ (parse x.data).2 < x.data.length) : lread (f + 1) p k L = lread f p (k + 1) (L.got k (parse x.data)) := by
  rw [lread, hf]
  dsimp only
  rw [if_neg hw]
theorem lread_cut {f k : Nat} {p : PD} {L : PL} {x : PF} (hf : pfind p.files (lfile L.name k) = some x) (hw : (parse x.data).2 < x.data.length) : lread (f + 1) p k L = ((pCut p (lfile L.name k) (parse x.data).2).1, L.got k (parse x.data)) := by
  rw [lread, hf]
  dsimp only
  rw [if_pos hw]
theorem lread_none {f k : Nat} {p : PD} {L : PL} (hf : pfind p.files (lfile L.name k) = none) : lread (f + 1) p k L = (p, L) := by
  rw [lread, hf]
theorem lread_up {f k : Nat} {p : PD} {L : PL} (hf : ∀ i, k ≤ i → i ≤ 9 → pfind p.files (lfile L.name i) = none) (hk : f + k = 10) : lread f p k L = (p, L) := by
  cases f with
  | zero => rfl
  | succ f => exact lread_none (hf k (Nat.le_refl _) (by omega))
theorem lread_init (n : Bs) (sz : Nat) (p : PD) (init : List (List Bs)) (h9 : init.length ≤ 9) (hfull : ∀ (i : Nat) (rs : List Bs), init[i]? = some rs → pfind p.files (lfile n i) = some ⟨lfile n i, frames rs, (frames rs).length⟩) (hs : ∀ r ∈ init.flatten, r.length ≤ 4096) :
    ∀ (d i la us : Nat), i + d = init.length → ∃ la' us', lread (10 - i) p i ⟨n, sz, la, us, false, (init.take i).flatten⟩ = lread (10 - init.length) p init.length ⟨n, sz, la', us', false, init.flatten⟩ := by
  intro d
  induction d with
  | zero =>
    intro i la us h
    obtain rfl : i = init.length := by omega
    rw [List.take_length]
    exact ⟨la, us, rfl⟩
  | succ d ih =>
    intro i la us h
    obtain ⟨rs, hrs⟩ : ∃ rs, init[i]? = some rs := ⟨_, List.getElem?_eq_getElem (by omega)⟩
    have hmem := List.mem_of_getElem? hrs
    have hp := parse_frames rs fun r hr => hs r (List.mem_flatten.2 ⟨rs, hmem, hr⟩)
    obtain ⟨f, hf⟩ : ∃ f, 10 - i = f + 1 := ⟨9 - i, by omega⟩
    have hst := lread_step (f := f) (L := ⟨n, sz, la, us, false, (init.take i).flatten⟩) (hfull i rs hrs) (by dsimp only; rw [hp]; omega)
    obtain ⟨la', us', e⟩ := ih (i + 1) i (frames rs).length (by omega)
    refine ⟨la', us', ?_⟩
    rw [hf, hst, ← e, show f = 10 - (i + 1) from by omega, hp]
    show lread _ p (i + 1) ⟨n, sz, i, (frames rs).length, false, (init.take i).flatten ++ rs⟩ = _
    rw [List.take_add_one, hrs]
    simp
theorem ldel_up (n : Bs) (last : Nat) : ∀ (f : Nat) (L : List PF), (∀ i, last < i → i ≤ last + f → pfind L (lfile n i) = none) → ldel n last f L = L := by
  intro f
  induction f with
  | zero => exact fun _ _ => rfl
  | succ f ih =>
    intro L h
    unfold ldel
    rw [del_none (h (last + f + 1) (by omega) (by omega))]
    exact ih L fun i h1 h2 => h i h1 (by omega)
/-- what is known of a log's files when it is opened: all parts but the last one are whole, that one is cut off anywhere. -/
structure Files (x : PD) (n : Bs) (init : List (List Bs)) (cur : List Bs) (k0 : Nat) : Prop where
  on : On' x
  nm : 0 < n.length ∧ n.length ≤ 8
  le9 : init.length ≤ 9
  full : ∀ (i : Nat) (rs : List Bs), init[i]? = some rs → pfind x.files (lfile n i) = some ⟨lfile n i, frames rs, (frames rs).length⟩
  curF : (cur = [] ∧ init = [] ∧ k0 = 0 ∧ pfind x.files (lfile n 0) = none) ∨ pfind x.files (lfile n init.length) = some ⟨lfile n init.length, (frames cur).take k0, k0⟩
  up : ∀ i, init.length < i → i ≤ 9 → pfind x.files (lfile n i) = none
  short : ∀ r ∈ init.flatten ++ cur, r.length ≤ 4096
  le : k0 ≤ (frames cur).length
theorem Files.open_ {x : PD} {n : Bs} {init : List (List Bs)} {cur : List Bs} {k0 : Nat} (h : Files x n init cur k0) (sz : Nat) :
    ∃ j, j ≤ cur.length ∧ (∀ i, i ≤ cur.length → (frames (cur.take i)).length ≤ k0 → i ≤ j) ∧ LInv (lopen x n sz).1 (lopen x n sz).2 init (cur.take j) j ∧ (lopen x n sz).2.name = n ∧ (lopen x n sz).2.waits = false ∧ (lopen x n sz).2.size = sz ∧ (frames (cur.take j)).length ≤ k0 := by
  have h9 := h.le9
  have hini : ∀ r ∈ init.flatten, r.length ≤ 4096 := fun r hr => h.short r (List.mem_append.2 (.inl hr))
  have hcs : ∀ r ∈ cur, r.length ≤ 4096 := fun r hr => h.short r (List.mem_append.2 (.inr hr))
  rcases h.curF with ⟨rfl, rfl, hk0, hn⟩ | hf
  · have e : lread 10 x 0 (PL.new n sz) = (x, PL.new n sz) := lread_none hn
    have e2 : lopen x n sz = (x, PL.new n sz) := by
      unfold lopen lrem
      rw [e]
      dsimp only
      rw [ldel_up]
      intro i h1 h2
      exact h.up i h1 (by show i ≤ 9; exact Nat.le_trans h2 (by show 0 + 9 ≤ 9; omega))
    rw [e2]
    exact ⟨0, Nat.zero_le _, fun i hi _ => hi, ⟨h.on, h.nm, rfl, h.le9, h.full, .inl ⟨rfl, rfl, rfl, hn⟩, h.up, rfl, rfl, h.short, Nat.le_refl _, fun _ => rfl⟩, rfl, rfl, rfl, by simp [frames]⟩
  · obtain ⟨la, us, e⟩ := lread_init n sz x init h.le9 h.full hini init.length 0 0 0 (by omega)
    have e : lread 10 x 0 (PL.new n sz) = _ := e
    obtain ⟨j, hj, hp, hl, hm⟩ := parse_take cur hcs k0
    have hlen : ((frames cur).take k0).length = k0 := by rw [List.length_take]; have := h.le; omega
    obtain ⟨f, hff⟩ : ∃ f, 10 - init.length = f + 1 := ⟨9 - init.length, by omega⟩
    have hjt : (cur.take j).length = j := by rw [List.length_take]; omega
    have htk : (frames cur).take (frames (cur.take j)).length = frames (cur.take j) := by
      conv => lhs; rw [← List.take_append_drop j cur, frames_append]
      rw [List.take_append_of_le_length (by rw [List.take_append_drop]; exact Nat.le_refl _), List.take_append_drop]
      exact List.take_of_length_le (Nat.le_refl _)
    have hshort : ∀ r ∈ init.flatten ++ cur.take j, r.length ≤ 4096 := fun r hr => by
      rcases List.mem_append.1 hr with hr | hr
      · exact hini r hr
      · exact hcs r (List.mem_of_mem_take hr)
    by_cases hcut : (frames (cur.take j)).length < k0
    · have e3 := lread_cut (f := f) (L := ⟨n, sz, la, us, false, init.flatten⟩) hf (by dsimp only; rw [hp, hlen]; exact hcut)
      rw [← hff, ← e] at e3
      dsimp only at e3
      rw [hp] at e3
      dsimp only at e3
      rw [cut_to h.on hf (by dsimp only; rw [hlen]; omega)] at e3
      have hfs : ∀ k', pfind (pset x.files (lfile n init.length) fun g => { g with data := g.data.take (frames (cur.take j)).length, last := min g.last (frames (cur.take j)).length }) k' = _ := find_set x.files (lfile n init.length) (fun g => { g with data := g.data.take (frames (cur.take j)).length, last := min g.last (frames (cur.take j)).length }) (fun _ => rfl)
      have hup : ∀ i, init.length < i → i ≤ 9 → pfind (pset x.files (lfile n init.length) fun g => { g with data := g.data.take (frames (cur.take j)).length, last := min g.last (frames (cur.take j)).length }) (lfile n i) = none := fun i h1 h2 => by
        rw [hfs, h.up i h1 h2]
        rfl
      have e4 : lopen x n sz = ({ x with files := pset x.files (lfile n init.length) fun g => { g with data := g.data.take (frames (cur.take j)).length, last := min g.last (frames (cur.take j)).length } }, ⟨n, sz, init.length, (frames (cur.take j)).length, false, init.flatten ++ cur.take j⟩) := by
        unfold lopen lrem
        rw [e3]
        show (({ x with files := ldel n init.length (9 - init.length) _ } : PD), _) = _
        rw [ldel_up n init.length _ _ fun i h1 h2 => hup i h1 (by omega)]
        rfl
      rw [e4]
      refine ⟨j, hj, hm, ⟨h.on, h.nm, rfl, h.le9, fun i rs hi => ?_, .inr ⟨(frames (cur.take j)).length, ?_, ?_, Nat.le_refl _⟩, hup, rfl, rfl, hshort, by rw [hjt]; exact Nat.le_refl _, fun _ => hjt.symm⟩, rfl, rfl, rfl, hl⟩
      · show pfind (pset _ _ _) _ = _
        have hlt := (List.getElem?_eq_some_iff.1 hi).1
        rw [hfs, h.full i rs hi, Option.map_some, if_neg (fun e => by have := lfile_inj (by omega) (by omega) e; omega)]
      · show pfind (pset _ _ _) _ = _
        rw [hfs, hf, Option.map_some, if_pos rfl]
        dsimp only
        rw [List.take_take, Nat.min_eq_left (by omega), htk, Nat.min_eq_right (by omega)]
      · rw [List.take_of_length_le (by rw [hjt]; exact Nat.le_refl _)]; exact Nat.le_refl _
    · have hk : (frames (cur.take j)).length = k0 := by omega
      have e3 := lread_step (f := f) (L := ⟨n, sz, la, us, false, init.flatten⟩) hf (by dsimp only; rw [hp, hlen]; exact hcut)
      rw [← hff, ← e] at e3
      dsimp only at e3
      rw [hp] at e3
      have e3 : lread 10 x 0 (PL.new n sz) = lread f x (init.length + 1) ⟨n, sz, init.length, (frames (cur.take j)).length, false, init.flatten ++ cur.take j⟩ := e3
      have e5 := lread_up (f := f) (k := init.length + 1) (p := x) (L := ⟨n, sz, init.length, (frames (cur.take j)).length, false, init.flatten ++ cur.take j⟩) (fun i h1 h2 => h.up i (by omega) h2) (by omega)
      rw [e5] at e3
      have e4 : lopen x n sz = (x, ⟨n, sz, init.length, (frames (cur.take j)).length, false, init.flatten ++ cur.take j⟩) := by
        unfold lopen lrem
        rw [e3]
        show (({ x with files := ldel n init.length (9 - init.length) x.files } : PD), _) = _
        rw [ldel_up n init.length _ _ fun i h1 h2 => h.up i h1 (by omega)]
      rw [e4]
      refine ⟨j, hj, hm, ⟨h.on, h.nm, rfl, h.le9, h.full, .inr ⟨k0, ?_, ?_, by omega⟩, h.up, rfl, rfl, hshort, by rw [hjt]; exact Nat.le_refl _, fun _ => hjt.symm⟩, rfl, rfl, rfl, hl⟩
      · rw [hf, ← hk, htk]
      · rw [List.take_of_length_le (by rw [hjt]; exact Nat.le_refl _)]; omega
theorem crash_full (n d : Bs) (z : Int) : pcrashF ⟨n, d, d.length⟩ z = ⟨n, d, d.length⟩ := by
  have hk : pkeep ⟨n, d, d.length⟩ z = d.length := by
    unfold pkeep
    dsimp only
    rw [Nat.sub_self]
    have : z % ((0 + 1 : Nat) : Int) = 0 := by show z % 1 = 0; exact Int.emod_one z
    rw [this]
    rfl
  unfold pcrashF
  rw [hk, List.take_length]
/-- a crash of a disk with a log. -/
theorem LInv.crash {p : PD} {L : PL} {init : List (List Bs)} {cur : List Bs} {s : Nat} (h : LInv p L init cur s) (ks : List Int) : ∃ k0, Files (pCrash p ks) L.name init cur k0 ∧ (frames (cur.take s)).length ≤ k0 := by
  have hc := find_crash p.files ks
  have hfull : ∀ (i : Nat) (rs : List Bs), init[i]? = some rs → pfind (pCrash p ks).files (lfile L.name i) = some ⟨lfile L.name i, frames rs, (frames rs).length⟩ := fun i rs hi => by
    obtain ⟨z, hz⟩ := (hc (lfile L.name i)).2 _ (h.full i rs hi)
    rw [crash_full] at hz
    exact hz
  have hup : ∀ i, init.length < i → i ≤ 9 → pfind (pCrash p ks).files (lfile L.name i) = none := fun i h1 h2 => (hc _).1 (h.up i h1 h2)
  rcases h.curF with ⟨h1, h2, h3, h4⟩ | ⟨l, hf, hl1, hl2⟩
  · refine ⟨0, ⟨⟨rfl, rfl⟩, h.nm, h.le9, hfull, .inl ⟨h1, h2, rfl, (hc _).1 h4⟩, hup, h.short, Nat.zero_le _⟩, ?_⟩
    rw [h1]
    simp [frames]
  · obtain ⟨z, hz⟩ := (hc _).2 _ hf
    have hk : l ≤ pkeep ⟨lfile L.name init.length, frames cur, l⟩ z ∧ pkeep ⟨lfile L.name init.length, frames cur, l⟩ z ≤ (frames cur).length := by
      unfold pkeep
      dsimp only
      have h1 := Int.emod_lt_of_pos z (show (0 : Int) < (((frames cur).length - l + 1 : Nat) : Int) by omega)
      have h2 := Int.emod_nonneg z (show (((frames cur).length - l + 1 : Nat) : Int) ≠ 0 by omega)
      omega
    exact ⟨_, ⟨⟨rfl, rfl⟩, h.nm, h.le9, hfull, .inr hz, hup, h.short, hk.2⟩, by omega⟩
/-- a log that is opened behind a crash has what lasted, and a beginning of the rest. -/
theorem LInv.again {p : PD} {L : PL} {init : List (List Bs)} {cur : List Bs} {s : Nat} (h : LInv p L init cur s) (ks : List Int) (sz : Nat) :
    ∃ j, s ≤ j ∧ j ≤ cur.length ∧ LInv (lopen (pCrash p ks) L.name sz).1 (lopen (pCrash p ks) L.name sz).2 init (cur.take j) j ∧ (lopen (pCrash p ks) L.name sz).2.name = L.name ∧ (lopen (pCrash p ks) L.name sz).2.waits = false := by
  obtain ⟨k0, hf, hk⟩ := h.crash ks
  obtain ⟨j, hj, hm, hi, hn, hw, _⟩ := hf.open_ sz
  exact ⟨j, hm s h.sle hk, hj, hi, hn, hw⟩
/-- a log on a disk without files of its name. -/
theorem Files.none_ {x : PD} {n : Bs} (ho : On' x) (hn : 0 < n.length ∧ n.length ≤ 8) (h : ∀ i, i ≤ 9 → pfind x.files (lfile n i) = none) : Files x n [] [] 0 :=
  ⟨ho, hn, Nat.zero_le _, (fun i rs hi => by cases hi), .inl ⟨rfl, rfl, rfl, h 0 (by omega)⟩, fun i _ h2 => h i h2, (fun r hr => by cases hr), Nat.le_refl _⟩
end Go.Proofs.YthnaggmafbhdmaaDoor
