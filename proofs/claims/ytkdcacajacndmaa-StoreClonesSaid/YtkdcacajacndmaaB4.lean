/- A row of the call's own whose block may be longer than its capacity (what cut leaves), and append onto it. No condition but lengths. -/
import Derived.Test.YtkdcacajacndmaaB3
namespace Go.Proofs.Ytkdcacajacndmaa
open Go.RowKit
section
variable {P : Program}
/-- v is a row of n elements, of `size` cells each, in a block made behind base (or nil); its block holds its capacity at least. -/
def RowW (w : World) (base : Nat) (e : TypeId) (size : Nat) (v : Value) (n : Nat) (xs : List Value) : Prop :=
  xs.length = n * size ∧ (∀ u ∈ xs, u.oneCell' = true) ∧ ((v = .slice none 0 0 ∧ n = 0) ∨ ∃ g cap cur, v = .slice (some ⟨g, 0, none⟩) n cap ∧ base ≤ g ∧ Bk w g e cur ∧ n ≤ cap ∧ cap ≤ maxLen ∧ cap * size ≤ cur.size ∧ cur.toList.take (n * size) = xs)
theorem RowW.nil (w : World) (base : Nat) (e : TypeId) (size : Nat) : RowW w base e size (.slice none 0 0) 0 [] := ⟨by simp, (fun _ h => by cases h), .inl ⟨rfl, rfl⟩⟩
theorem RowW.ofOwn {w : World} {base : Nat} {e : TypeId} {size n : Nat} {v : Value} {xs : List Value} (h : w.ownsRow base e size v n xs) (h1 : ∀ u ∈ xs, u.oneCell' = true) : RowW w base e size v n xs := by
  refine ⟨h.1, h1, ?_⟩
  rcases h.2 with h2 | ⟨g, cap, cur, hv, hb, hg, hc, hm, hs, ht⟩
  · exact .inl h2
  · exact .inr ⟨g, cap, cur, hv, hb, hg, hc, hm, Nat.le_of_eq hs.symm, ht⟩
theorem RowW.fr {C : Nat → Prop} {w w' : World} {base : Nat} {e : TypeId} {size n : Nat} {v : Value} {xs : List Value} (h : RowW w base e size v n xs) (hf : Fr C w w') (hn : ∀ k, v.ownBlock = some k → ¬ C k) : RowW w' base e size v n xs := by
  refine ⟨h.1, h.2.1, ?_⟩
  rcases h.2.2 with h2 | ⟨g, cap, cur, rfl, hb, hg, r⟩
  · exact .inl h2
  · exact .inr ⟨g, cap, cur, rfl, hb, hg.fr hf (hn g rfl), r⟩
theorem RowW.lt {w : World} {base : Nat} {e : TypeId} {size n : Nat} {v : Value} {xs : List Value} (h : RowW w base e size v n xs) {k : Nat} (hk : v.ownBlock = some k) : base ≤ k ∧ k < w.heap.size := by
  rcases h.2.2 with ⟨rfl, _⟩ | ⟨g, cap, cur, rfl, hb, hg, _⟩
  · cases hk
  · have e : g = k := by simpa [Value.ownBlock] using hk
    subst e
    exact ⟨hb, (Array.getElem?_eq_some_iff.1 hg).1⟩
theorem RowW.rd {w : World} {base : Nat} {e : TypeId} {size n c : Nat} {A : Option Addr} {xs : List Value} (h : RowW w base e size (.slice A n c) n xs) : Rd w A xs := by
  intro hx
  rcases h.2.2 with ⟨hv, rfl⟩ | ⟨g, cap, cur, hv, _, hh, hnc, _, hcs, htake⟩
  · have := h.1; rw [Nat.zero_mul] at this; omega
  · have hA : A = some ⟨g, 0, none⟩ := by injection hv
    refine ⟨g, 0, hA, fun j v hj => ?_⟩
    rw [hh.cell, Nat.zero_add, ← hj, ← htake, List.getElem?_take]
    have hl := (List.getElem?_eq_some_iff.1 hj).1
    rw [if_pos (by have := h.1; omega)]
    simp
theorem RowW.form {w : World} {base : Nat} {e : TypeId} {size n : Nat} {v : Value} {xs : List Value} (h : RowW w base e size v n xs) : ∃ A c, v = .slice A n c ∧ n ≤ c ∧ (A = none → c = 0) := by
  rcases h.2.2 with ⟨rfl, rfl⟩ | ⟨g, cap, cur, rfl, hb', hg, hnc, r⟩
  · exact ⟨none, 0, rfl, Nat.le_refl _, fun _ => rfl⟩
  · exact ⟨_, cap, rfl, hnc, fun h => by cases h⟩
theorem RowW.low {w : World} {base base' : Nat} {e : TypeId} {size n : Nat} {v : Value} {xs : List Value} (h : RowW w base e size v n xs) (hb : base' ≤ base) : RowW w base' e size v n xs := by
  refine ⟨h.1, h.2.1, ?_⟩
  rcases h.2.2 with h2 | ⟨g, cap, cur, hv, hb', r⟩
  · exact .inl h2
  · exact .inr ⟨g, cap, cur, hv, by omega, r⟩

/-- append onto such a row: in its place if there is room, else in a new block. -/
theorem run_append_rowW (w : World) (base : Nat) (t ty e : TypeId) (i : TypeInfo) (z : Value) (size bytes : Nat) (ht : P.underlying t = some (.slice e)) (hi : P.info? e = some i) (hz : i.zero = some z)
    (hsize : i.size = size) (hby : i.bytes = bytes) (hzs : z.cells.size = size) (hpos : 0 < size)
    (v : Value) (n : Nat) (xs : List Value) (hown : RowW w base e size v n xs)
    (A : Option Addr) (c m : Nat) (news : List Value) (hm : news.length = m * size) (hr : Rd w A news) (h1 : ∀ u ∈ news, u.oneCell' = true)
    (hA : A = none → c = 0)
    (h63 : n + m ≤ maxLen) (hbytes : (n + m) * bytes ≤ 140737488355328) (hbase : base ≤ w.heap.size) :
    ∃ v' w', (Builtin.append_ #[t, t] ty #[v, .slice A m c]).run P w = .ok v' w' ∧ RowW w' base e size v' (n + m) (xs ++ news) ∧ Fr (fun k => v.ownBlock = some k) w w' ∧ (v'.ownBlock = v.ownBlock ∨ v'.ownBlock = some w.heap.size) := by
  have hone : ∀ u ∈ xs ++ news, u.oneCell' = true := fun u hu => by
    rcases List.mem_append.1 hu with h | h
    · exact hown.2.1 u h
    · exact h1 u h
  have hlen : (xs ++ news).length = (n + m) * size := by rw [List.length_append, hown.1, hm, Nat.add_mul]
  rcases hown.2.2 with ⟨rfl, rfl⟩ | ⟨g, cap, cur, rfl, hbg, hg, hnc, hcm, hcs, htake⟩
  · -- nil: as for any row of the call's own
    obtain rfl : xs = [] := List.eq_nil_of_length_eq_zero (by simpa using hown.1)
    rcases A with _ | ad
    · obtain rfl : news = [] := by
        rcases Nat.eq_zero_or_pos news.length with h0 | h0
        · exact List.eq_nil_of_length_eq_zero h0
        · obtain ⟨_, _, h, _⟩ := hr h0
          cases h
      obtain rfl := hA rfl
      obtain rfl : m = 0 := by
        rcases Nat.eq_zero_or_pos m with h0 | h0
        · exact h0
        · have := Nat.mul_pos h0 hpos
          simp only [List.length_nil] at hm
          omega
      exact ⟨_, w, run_append_owned_none w base t ty e i size ht hi _ 0 [] (World.ownsRow_nil w base e size), RowW.nil w base e size, Fr.refl _ _, .inl rfl⟩
    · obtain ⟨v', w', q1, q2, q3, _, q5⟩ := run_append_own_at (P := P) w base t ty e i z size bytes ht hi hz hsize hby hzs hpos _ 0 [] (World.ownsRow_nil w base e size) ad m c news hm
        (fun j u hu => by
          obtain ⟨b, o, e', hc⟩ := hr (by have := (List.getElem?_eq_some_iff.1 hu).1; omega)
          injection e' with e'
          subst e'
          have := hc j u hu
          unfold Addr.add
          split
          · subst j; simpa using this
          · exact this) h1 h63 hbytes hbase
      exact ⟨v', w', q1, RowW.ofOwn q2 hone, (Fr.refl _ _).grown q3 (fun k hk _ => hk), q5⟩
  · rcases A with _ | ad
    · obtain rfl : news = [] := by
        rcases Nat.eq_zero_or_pos news.length with h0 | h0
        · exact List.eq_nil_of_length_eq_zero h0
        · obtain ⟨_, _, h, _⟩ := hr h0
          cases h
      obtain rfl := hA rfl
      obtain rfl : m = 0 := by
        rcases Nat.eq_zero_or_pos m with h0 | h0
        · exact h0
        · have := Nat.mul_pos h0 hpos
          simp only [List.length_nil] at hm
          omega
      refine ⟨_, w, ?_, by simpa using hown, Fr.refl _ _, .inl rfl⟩
      simp [Builtin.append_, run_underlying ht, sizeOf, typeInfo, hi, Builtin.lenOf, Builtin.firstCells, loadCells, storeCells, hnc]
    · have hnews : ∀ j u, news[j]? = some u → w.cell? (ad.add j) = some u := fun j u hu => by
        obtain ⟨b, o, e', hc⟩ := hr (by have := (List.getElem?_eq_some_iff.1 hu).1; omega)
        injection e' with e'
        subst e'
        have := hc j u hu
        unfold Addr.add
        split
        · subst j; simpa using this
        · exact this
      subst hsize
      by_cases hroom : n + m ≤ cap
      · have hfit : n * i.size + news.length ≤ cur.size := by rw [hm, ← Nat.add_mul]; exact Nat.le_trans (Nat.mul_le_mul_right _ hroom) hcs
        refine ⟨_, _, run_append_room (P := P) w t ty e i ht hi g n cap cur hg ad m c news hm hnews h1 hroom hfit, ⟨hlen, hone, .inr ⟨g, cap, over cur (n * i.size) news, rfl, hbg, setRow_heap w g cur _ e _ hg, hroom, hcm, ?_, ?_⟩⟩, ?_, .inl rfl⟩
        · rw [over_size cur _ _ hfit]; exact hcs
        · unfold over
          rw [htake, ← hlen]
          exact List.take_left
        · exact (setRow_fr w g _).mono fun k _ e => by simp [Value.ownBlock, e]
      · subst hby
        have holds : ∀ j u, xs[j]? = some u → w.cell? ((⟨g, 0, none⟩ : Addr).add j) = some u := fun j u hj => by
          obtain ⟨b, o, e', hc⟩ := hown.rd (by have := (List.getElem?_eq_some_iff.1 hj).1; omega)
          injection e' with e'
          injection e' with e1 e2
          subst e1 e2
          have := hc j u hj
          rw [Nat.zero_add] at this
          unfold Addr.add
          split
          · subst j; simpa using this
          · simpa using this
        have hrun := run_append_grow (P := P) w t ty e i z ht hi hz ⟨g, 0, none⟩ n cap xs hown.1 holds ad m c news hm hnews (by omega) (by unfold maxLen at h63; omega) (growslice_fits (by omega) hbytes)
        refine ⟨_, _, hrun, ⟨hlen, hone, .inr ⟨w.heap.size, _, _, rfl, hbase, heap_alloc_new w.drew _, grownCap_ge w (n + m) cap e, grownCap_le_maxLen w (n + m) cap e h63, ?_, ?_⟩⟩, (Fr.refl _ _).drew.alloc _, .inr rfl⟩
        · have hge := grownCap_ge w (n + m) cap e
          simp only [Array.size_append, List.size_toArray, size_zeroCells, hzs, hown.1, hm, ← Nat.add_mul]
          exact Nat.mul_le_mul_right _ (by omega)
        · simp only [Array.toList_append, List.append_assoc]
          rw [← List.append_assoc, ← hlen]
          exact List.take_left
end
end Go.Proofs.Ytkdcacajacndmaa
