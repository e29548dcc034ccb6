/- What a log's read, removing, opening, appending and syncing make of a disk whose power has no end. Plain mathematics; and small words for logs in memory. No condition. -/
import Derived.Test.YtafiokabnlmgpaaGreatDoorTake
import Derived.Deep.RegionHeld3
namespace Go.Proofs.YtafiokabnlmgpaaGreatDoor
open Go.RowKit Go.Maps

def PL.got (L : PL) (k : Nat) (c : List Bs × Nat) : PL := { L with recs := L.recs ++ c.1, last := k, used := c.2 }
def lread : Nat → PD → Nat → PL → PD × PL
  | 0, p, _, L => (p, L)
  | f + 1, p, k, L => match pfind p.files (lfile L.name k) with
    | none => (p, L)
    | some x => if (parse x.data).2 < x.data.length then ((pCut p (lfile L.name k) (parse x.data).2).1, L.got k (parse x.data)) else lread f p (k + 1) (L.got k (parse x.data))
def On' (p : PD) : Prop := p.left = -1 ∧ p.down = false
theorem read_none {p : PD} (h : On' p) {k : Bs} (hf : pfind p.files k = none) : pRead p k = ([], 60) := by
  unfold pRead
  rw [h.2, hf]
  rfl
theorem read_some {p : PD} (h : On' p) {k : Bs} {x : PF} (hf : pfind p.files k = some x) : pRead p k = (x.data, 0) := by
  unfold pRead
  rw [h.2, hf]
  rfl
theorem cut_on {p : PD} (h : On' p) {k : Bs} {x : PF} (hf : pfind p.files k = some x) {n : Nat} (hn : n ≤ x.data.length) : (pCut p k n).2 = 0 := by
  unfold pCut pChange
  rw [h.2, hf, h.1]
  simp
  rw [if_neg (by omega)]
theorem find_len {L : List PF} {k : Bs} {x : PF} (h : pfind L k = some x) : x.data.length ≤ ptotal L := by
  induction L with
  | nil => cases h
  | cons f t ih =>
    unfold pfind at h
    split at h
    · injection h with h
      subst h
      exact Nat.le_add_right _ _
    · have := ih h
      show _ ≤ f.data.length + ptotal t
      omega

section
variable {w wr w' : World} {gd gl : Nat} {p p' : PD} {L : PL} {S S' : Nat → Prop} {g g' : Lg}
theorem WL.widen (h : WL w wr gd p gl L S) (hf : Fr NoBlk wr w') (hS : ∀ k, S' k → S k ∨ wr.heap.size ≤ k) (hl : ∀ k, S' k → k < w'.heap.size) : WL w w' gd p gl L S' := by
  obtain ⟨g, hg, hlg, ha, hs, ht⟩ := h
  refine ⟨g, hg, hlg.fr hf fun _ _ h => h, ha.prot hf (fun _ _ h => h.elim) fun k hk => ?_, fun k hk hb => ?_, hl⟩
  · rcases hk with hk | hk
    · exact .inl (.inl hk)
    · exact (hS k hk).imp .inr id
  · rcases hS k hk with h1 | h1
    · exact hs k h1 hb
    · have := (hlg.blk hb).2; omega
theorem WL.less (h : WL w wr gd p gl L S') (hS : ∀ k, S k → S' k) : WL w wr gd p gl L S := by
  obtain ⟨g, hg, hlg, ha, hs, ht⟩ := h
  exact ⟨g, hg, hlg, ha.prot (Fr.refl NoBlk _) (fun _ _ h => h.elim) fun k hk => .inl (hk.imp id (hS k)), fun k hk => hs k (hS k hk), fun k hk => ht k (hS k hk)⟩
theorem Fr.less (h : Fr (Loose w S') wr w') (hS : ∀ k, S k → S' k) : Fr (Loose w S) wr w' := h.mono fun k _ hk => ⟨fun h' => hk.1 (hS k h'), hk.2⟩
theorem WL.set (_hg : g.pl = L) (h : LgIn wr w.heap.size gd gl g) (ha : AtS w wr gd p (Mine gl g S)) (hs : ∀ k, S k → ¬ LBlks gl g k) (hl : ∀ k, S k → k < wr.heap.size) (hf : Fr (fun k => k = gl) wr w') (hb : Bk w' gl 192 (g'.cells gd)) (hr : g'.rv = g.rv) (hp : g'.parts = g.parts) (hn : g'.name = g.name) (hz : g'.size = g.size) (hll : g'.last ≤ 9) (hu : g'.used ≤ 2000000) :
    WL w w' gd p gl g'.pl S ∧ Fr (Loose w S) wr w' :=
  WL.log rfl h hs hl ha (h.set hf hb hr hp hn hz hll hu) (hf.mono fun _ _ e => .inl e) fun k hk => .inl ((LBlks.same hr hp k).1 hk)
end
end Go.Proofs.YtafiokabnlmgpaaGreatDoor
