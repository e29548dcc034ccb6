/- NetFirst's own list beside a net. Conditions: at most 100 numbers. -/
import Derived.Test.YtdfmoijomnjdiaaOpenN
import Derived.Test.YtdfmoijomnjdiaaB4
namespace Go.Proofs.Ytdfmoijomnjdiaa
open Go.RowKit

theorem intInfo : (Try.prog.info? 3).map (fun i => (i.zero, i.size, i.bytes)) = some (some (.int .i64 0), 1, 8) := by kernel_rfl
def icb (l : List Int) : List Value := l.map fun z => .int .i64 z
theorem icb_len (l : List Int) : (icb l).length = l.length := by simp [icb]
theorem icb_one (l : List Int) : ∀ u ∈ icb l, u.oneCell' = true := by
  intro u hu
  obtain ⟨x, _, rfl⟩ := List.mem_map.1 hu
  rfl
/-- the row that is kept. -/
def KpL (A : Option Addr) (n c : Nat) : Nat → Prop := fun k => (Value.slice A n c).ownBlock = some k
/-- the law's list ls, and a net that holds vs. -/
structure Lft (w W : World) (A : Option Addr) (c : Nat) (ls : List Int) (g : Nat) (vs : List Vl) : Prop where
  row : RowW W w.heap.size 3 1 (.slice A ls.length c) ls.length (icb ls)
  nk : NK w W (KpL A ls.length c) g vs
  fr : Fr NoBlk w W
theorem Lft.lt {w W : World} {A : Option Addr} {c : Nat} {ls : List Int} {g : Nat} {vs : List Vl} (h : Lft w W A c ls g vs) : ∀ k, KpL A ls.length c k → k < W.heap.size := fun _ hk => (h.row.lt hk).2
theorem Lft.step {w W W' : World} {A : Option Addr} {c : Nat} {ls : List Int} {g : Nat} {vs vs' : List Vl} (h : Lft w W A c ls g vs) (hf : Fr (Out w (KpL A ls.length c)) W W') (hn : NK w W' (KpL A ls.length c) g vs') : Lft w W' A c ls g vs' :=
  ⟨h.row.fr hf fun _k hk e => e.2 hk, hn, Out.none_ h.fr hf⟩
theorem Lft.nofr {w W W' : World} {A : Option Addr} {c : Nat} {ls : List Int} {g : Nat} {vs : List Vl} (h : Lft w W A c ls g vs) (hf : Fr NoBlk W W') : Lft w W' A c ls g vs :=
  ⟨h.row.fr hf fun _ _ e => e, h.nk.nofr hf, h.fr.trans hf⟩
theorem RowW.some_ {W : World} {base n c : Nat} {e : TypeId} {size : Nat} {A : Option Addr} {xs : List Value} (h : RowW W base e size (.slice A n c) n xs) (hn : 0 < n) : ∃ q, A = some ⟨q, 0, none⟩ := by
  rcases h.2.2 with ⟨_, e⟩ | ⟨q, cap, cur, e, _⟩
  · omega
  · injection e with e
    exact ⟨q, e⟩
theorem RowW.caps {W : World} {base n c : Nat} {e : TypeId} {size : Nat} {A : Option Addr} {xs : List Value} (h : RowW W base e size (.slice A n c) n xs) : n ≤ c ∧ c ≤ maxLen := by
  rcases h.2.2 with ⟨e, rfl⟩ | ⟨q, cap, cur, e, _, _, h1, h2, _⟩
  · injection e with _ _ e
    rw [e]
    exact ⟨Nat.le_refl _, by decide⟩
  · injection e with _ _ e
    rw [e]
    exact ⟨h1, h2⟩
/-- cut short: its beginning, with no room behind. -/
theorem RowW.short {W : World} {base n c q j : Nat} {e : TypeId} {xs : List Value} (h : RowW W base e 1 (.slice (some ⟨q, 0, none⟩) n c) n xs) (hj : j ≤ n) : RowW W base e 1 (.slice (some ⟨q, 0, none⟩) j j) j (xs.take j) := by
  have hl := h.1
  rcases h.2.2 with ⟨e, _⟩ | ⟨g, cap, cur, e, hb, hg, h1, h2, h3, h4⟩
  · cases e
  · injection e with e _ e3
    injection e with e
    injection e with e
    subst e
    refine ⟨by rw [List.length_take, hl]; omega, fun u hu => h.2.1 u (List.mem_of_mem_take hu), .inr ⟨q, j, cur, rfl, hb, hg, Nat.le_refl _, by omega, by omega, ?_⟩⟩
    rw [← h4, List.take_take]
    congr 1
    omega
/-- left without one of its elements. -/
theorem Lft.cut {w W : World} {c q j : Nat} {ls : List Int} {g : Nat} {vs : List Vl} (h : Lft w W (some ⟨q, 0, none⟩) c ls g vs) (hj : j < ls.length) (hs : ls.length ≤ 100) :
    ∃ A' c' w', (Builtin.append_ #[47, 47] 47 #[.slice (some ⟨q, 0, none⟩) j j, .slice (if c = j + 1 then some ⟨q, 0, none⟩ else some ⟨q, j + 1, none⟩) (ls.length - (j + 1)) (c - (j + 1))]).run Try.prog W = .ok (.slice A' (ls.eraseIdx j).length c') w' ∧ Lft w w' A' c' (ls.eraseIdx j) g vs := by
  obtain ⟨i0, hi, hz0, hz1, hz2⟩ := info_parts intInfo
  have hcap := h.row.caps
  have hlen : (ls.eraseIdx j).length = j + (ls.length - (j + 1)) := by rw [List.length_eraseIdx, if_pos hj]; omega
  have hrs := h.row.short (j := j) (by omega)
  have hrd : Rd W (if c = j + 1 then some ⟨q, 0, none⟩ else some ⟨q, j + 1, none⟩) ((icb ls).drop (j + 1)) := by
    intro hp
    rw [List.length_drop, icb_len] at hp
    rw [if_neg (by omega)]
    refine ⟨q, j + 1, rfl, fun i v hv => ?_⟩
    rw [List.getElem?_drop] at hv
    obtain ⟨b, o, e, hc⟩ := h.row.rd (by rw [icb_len]; omega)
    injection e with e
    injection e with e1 e2
    subst e1 e2
    have := hc _ _ hv
    rwa [Nat.zero_add] at this
  obtain ⟨v', w', hrun, hro, hf, hb⟩ := run_append_rowW (P := Try.prog) W w.heap.size 47 47 3 i0 _ 1 8 Try.underlying47 hi hz0 hz1 hz2 rfl (by decide) _ j _ hrs (if c = j + 1 then some ⟨q, 0, none⟩ else some ⟨q, j + 1, none⟩) (c - (j + 1)) (ls.length - (j + 1)) ((icb ls).drop (j + 1))
    (by rw [List.length_drop, icb_len]; omega) hrd (fun u hu => icb_one ls u (List.mem_of_mem_drop hu)) (by intro e; split at e <;> cases e) (by unfold maxLen; omega) (by omega) h.fr.size
  rw [← hlen] at hro
  obtain ⟨A', c', rfl, _, _⟩ := hro.form
  have hxs : (icb ls).take j ++ (icb ls).drop (j + 1) = icb (ls.eraseIdx j) := by
    unfold icb
    rw [List.eraseIdx_eq_take_drop_succ, List.map_append, List.map_take, List.map_drop]
  rw [hxs] at hro
  refine ⟨A', c', w', hrun, hro, (h.nk.sub (S' := fun k => KpL (some ⟨q, 0, none⟩) ls.length c k ∨ W.heap.size ≤ k) fun k hk => hk).far (hf.mono fun k _ hk => .inl hk) |>.sub fun k hk => ?_, h.fr.step hf fun k hk e => by have := (h.row.lt (k := k) e).1; omega⟩
  have hk' : (Value.slice A' (ls.eraseIdx j).length c').ownBlock = some k := hk
  rcases hb with e | e
  · rw [e] at hk'
    exact .inl (.inl hk')
  · rw [e] at hk'
    injection hk' with hk'
    exact .inl (.inr (by omega))
end Go.Proofs.Ytdfmoijomnjdiaa
