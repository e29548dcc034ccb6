/- The disk's names in new memory; whether a text is among others. Condition: lengths. -/
import Derived.Test.YtafiokabnlmgpaaGreatDoorReadP
namespace Go.Proofs.YtafiokabnlmgpaaGreatDoor
open Go.RowKit Go.Maps Go.Sort Go.Shelf

/-- the names, in new memory. -/
structure NewTexts (w w' : World) (A : Option Addr) (c : Nat) (ks : List Bs) : Prop where
  rd : Rd w' A (sts ks)
  le : ks.length ≤ c
  new : ∀ k, ablk A k → w.heap.size ≤ k
  lt : ∀ k, ablk A k → k < w'.heap.size
  fr : Fr NoBlk w w'
def NamesNew (w : World) (ks : List Bs) (e : Ending) (w' : World) : Prop := ∃ A c, e = .returned (.slice A ks.length c) ∧ NewTexts w w' A c ks
set_option maxRecDepth 100000 in
theorem names_new (w : World) (B gd : Nat) (m : Dsk) (h : DkIn w B gd m) : Calls Tryz.prog 35 #[.pointer (some ⟨gd, 0, none⟩)] w (NamesNew w (m.files.map (·.name))) := by
  obtain ⟨_, c1, _, _⟩ := h.cell
  have hf := h.few
  have HS := Lib.hid (sorted_any m.bm _ (mapD (fsOf m.files)) ptE w h.mp (by rw [mapD_size]; unfold maxLen fsOf; rw [List.length_map]; omega) (by rw [mapD_size]; unfold fsOf; rw [List.length_map]; omega))
  have HK := Lib.hid (mapsKeys_any (some m.bm) w)
  have HU := Lib.hid h.up
  clear h hf
  go_enter Tryz.func35, Tryz.ntmps35
  go_wp2_with fail
  refine HK.out.mono ?_
  rintro e w1 ⟨rfl, rfl⟩
  go_wp2_with fail
  refine HS.out.mono ?_
  rintro e w2 ⟨v, ss, rfl, hp, ho, hn, hb⟩
  obtain ⟨A, c, rfl, hc, hA⟩ := own_form ho
  have hss : ss.mergeSort (fun x y => decide (x ≤ y)) = m.files.map (·.name) := sorted_up (by rw [strKeys_mapD, fsOf_names] at hp; exact hp) HU.out
  have hl : ss.length = (m.files.map (·.name)).length := by
    have := congrArg List.length hss
    rwa [List.length_mergeSort] at this
  rw [hss, hl] at ho
  rw [hl] at hc
  have HT : Hid (NewTexts w w2 A c (m.files.map (·.name))) := ⟨Rd.of_own ho, hc, fun k hk => by
    obtain ⟨a, rfl, rfl⟩ := hk
    exact Nat.le_trans ((Fr.refl NoBlk w).alloc _).size (own_lt ho (k := a.block) rfl).1, fun k hk => by
    obtain ⟨a, rfl, rfl⟩ := hk
    exact (own_lt ho (k := a.block) rfl).2, ((Fr.refl NoBlk w).alloc _).trans (Fr.ofBelow hb)⟩
  have HL := Lib.hid hl
  clear ho hc hA hn hb hss hp hl
  rw [HL.out]
  go_wp2_with fail
  go_ret
  exact ⟨A, c, by rw [List.length_map]; rfl, HT.out⟩
theorem namesN {w wr : World} {gd : Nat} {p : PD} {S : Nat → Prop} (h : AtS w wr gd p S) :
    Calls Tryz.prog 35 #[.pointer (some ⟨gd, 0, none⟩)] wr (NamesNew wr (p.files.map (·.name))) := by
  obtain ⟨B, m, rfl, hdk, hw, hB, hs⟩ := h
  have e2 : m.pd.files.map (·.name) = m.files.map (·.name) := by
    show (m.files.map Fil.pf).map (·.name) = _
    rw [List.map_map]; rfl
  rw [e2]
  exact names_new wr B gd m hdk
/-- is a text among others. -/
def inB (xs : List Bs) (k : Bs) : Bool := xs.any fun x => k == x
theorem inB_at (xs : List Bs) (k : Bs) (j : Nat) (hj : j < xs.length) (h : (k == xs.getD j []) = true) : inB xs k = true := by
  rw [inB, List.any_eq_true]
  refine ⟨xs.getD j [], ?_, h⟩
  rw [List.getD_eq_getElem?_getD, List.getElem?_eq_getElem hj]
  exact List.getElem_mem hj
theorem inB_no (xs : List Bs) (k : Bs) (h : ∀ j, j < xs.length → (k == xs.getD j []) = false) : inB xs k = false := by
  rw [inB, List.any_eq_false]
  intro x hx
  obtain ⟨j, hj, rfl⟩ := List.getElem_of_mem hx
  have := h j hj
  rw [List.getD_eq_getElem?_getD, List.getElem?_eq_getElem hj] at this
  simpa using this
theorem inB_iff (xs : List Bs) (k : Bs) : inB xs k = true ↔ k ∈ xs := by
  rw [inB, List.any_eq_true]
  constructor
  · rintro ⟨x, hx, e⟩
    rw [beq_iff_eq.1 e]; exact hx
  · intro h
    exact ⟨k, h, by simp⟩

def IndexPost (xs : List Bs) (k : Bs) (e : Ending) : Prop := ∃ z : Int, e = .returned (.int .i64 z) ∧ decide (0 ≤ z) = inB xs k

set_option maxRecDepth 100000 in
theorem index_any (w : World) (A : Option Addr) (n c : Nat) (xs : List Bs) (key : Bs) (hn : n = xs.length) (hr : Rd w A (sts xs)) (hm : xs.length ≤ maxLen) :
    Calls Tryz.prog 160 #[.slice A n c, .string (bstr key)] w fun e w' => IndexPost xs key e ∧ w = w' := by
  subst hn
  have HR := Lib.hid hr
  clear hr
  unfold maxLen at hm
  go_enter Tryz.func160, Tryz.ntmps160
  go_wp2_with fail
  go_loop [5, 8] (fun _ z => ∃ k : Nat, k ≤ xs.length ∧ z = .int .i64 k ∧ Hid (∀ j, j < k → (key == xs.getD j []) = false)) (fun _ z => xs.length - (intOf z).toNat)
  case atStart => exact ⟨0, by omega, rfl, (fun j h1 => absurd h1 (by omega))⟩
  case round =>
    obtain ⟨k, hk, rfl, HL⟩ := hrel
    by_cases hlt : k < xs.length
    · obtain ⟨b, o, rfl, hc1⟩ := HR.out.text (k := k) hlt
      have HX : Hid ((key == xs.getD k []) = false → ∀ j, j < k + 1 → (key == xs.getD j []) = false) := by
        intro h j hj2
        by_cases e : j = k
        · subst e; exact h
        · exact HL.out j (by omega)
      have HN := Lib.hid (inB_at xs key k hlt)
      generalize xs.getD k [] = y at *
      have e3 := bstr_toList key
      have e4 := bstr_toList y
      cases hb : key == y
      · have HY := Lib.hid (HX.out hb)
        go_wp2_with fail
        go_round
        case rel => exact ⟨k + 1, by omega, by go_num, HY⟩
        case measure => simp [intOf]; omega
      · go_wp2_with fail
        go_ret
        exact ⟨⟨k, rfl, by rw [HN.out hb]; simp⟩, rfl⟩
    · have HZ : Hid (inB xs key = false) := inB_no xs key fun j a => HL.out j (by omega)
      go_wp2_with fail
      go_ret
      exact ⟨⟨-1, rfl, by rw [HZ.out]; rfl⟩, rfl⟩

set_option maxRecDepth 100000 in
theorem contains_any (w : World) (A : Option Addr) (n c : Nat) (xs : List Bs) (key : Bs) (hn : n = xs.length) (hr : Rd w A (sts xs)) (hm : xs.length ≤ maxLen) :
    Calls Tryz.prog 145 #[.slice A n c, .string (bstr key)] w fun e w' => e = .returned (.bool (inB xs key)) ∧ w = w' := by
  have HK := Lib.hid (index_any w A n c xs key hn hr hm)
  clear hr hn
  go_enter Tryz.func145, Tryz.ntmps145
  go_wp2_with fail
  refine HK.out.mono ?_
  rintro e w1 ⟨⟨z, rfl, hz⟩, rfl⟩
  have HZ := Lib.hid hz
  clear HK hz
  go_wp2
  go_ret
  exact ⟨ret_bool HZ.out, rfl⟩

theorem find_named {L : List PF} {k : Bs} (h : k ∈ L.map (·.name)) : ∃ f, pfind L k = some f := by
  induction L with
  | nil => cases h
  | cons f t ih =>
    by_cases e : f.name = k
    · exact ⟨f, by simp [pfind, e]⟩
    · rcases List.mem_cons.1 h with h | h
      · exact absurd h.symm e
      · obtain ⟨g, hg⟩ := ih h
        exact ⟨g, by simp [pfind, e, hg]⟩
theorem named_find {L : List PF} {k : Bs} {x : PF} (h : pfind L k = some x) : k ∈ L.map (·.name) := by
  induction L with
  | nil => cases h
  | cons f t ih =>
    unfold pfind at h
    split at h
    · rename_i e
      exact List.mem_cons.2 (.inl e.symm)
    · exact List.mem_cons.2 (.inr (ih h))
theorem find_del (L : List PF) (k k' : Bs) : pfind (pdel L k) k' = if k' = k then none else pfind L k' := by
  induction L with
  | nil => simp [pdel, pfind]
  | cons f t ih =>
    unfold pdel at ih ⊢
    rw [List.filter_cons]
    by_cases e : f.name = k
    · rw [if_neg (by simp [e]), ih]
      by_cases e2 : k' = k
      · rw [if_pos e2, if_pos e2]
      · rw [if_neg e2, if_neg e2]
        have : ¬ f.name = k' := fun h => e2 (h.symm.trans e)
        simp [pfind, this]
    · rw [if_pos (by simp [e])]
      by_cases e2 : k' = k
      · rw [if_pos e2] at ih ⊢
        have : ¬ f.name = k' := fun h => e (h.trans e2)
        simp only [pfind, if_neg this]
        exact ih
      · rw [if_neg e2] at ih ⊢
        by_cases e3 : f.name = k'
        · simp [pfind, e3]
        · simp only [pfind, if_neg e3]
          exact ih
theorem del_none {L : List PF} {k : Bs} (h : pfind L k = none) : pdel L k = L := by
  unfold pdel
  rw [List.filter_eq_self]
  intro g hg
  have : ¬ g.name = k := fun e => by
    obtain ⟨f, hf⟩ := find_named (k := k) (List.mem_map.2 ⟨g, hg, e⟩)
    rw [h] at hf
    cases hf
  simp [this]
theorem remove_on {p : PD} (h : On' p) {k : Bs} {x : PF} (hf : pfind p.files k = some x) : pRemove p k = ({ p with files := pdel p.files k }, 0) := by
  have hs : pspend p = p := by
    unfold pspend
    rw [if_neg (by rw [h.1]; decide), if_neg (by rw [h.1]; decide)]
  unfold pRemove pChange
  rw [h.2, hf, h.1, hs]
  simp [h.1, h.2]
/-- the parts above the last one are gone. -/
def ldel (n : Bs) (last : Nat) : Nat → List PF → List PF
  | 0, L => L
  | f + 1, L => ldel n last f (pdel L (lfile n (last + f + 1)))
def lrem (p : PD) (L : PL) : PD := { p with files := ldel L.name L.last (9 - L.last) p.files }
end Go.Proofs.YtafiokabnlmgpaaGreatDoor
