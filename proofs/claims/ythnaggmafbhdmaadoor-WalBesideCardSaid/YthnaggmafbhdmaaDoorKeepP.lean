/- A log, and two rows of records beside it: what the calls and an append to a row make of them. No condition. -/
import Derived.Test.YthnaggmafbhdmaaDoorSpeaks4
import Derived.Test.YthnaggmafbhdmaaDoorInv2
import Derived.Test.YthnaggmafbhdmaaDoorSame4
namespace Go.Proofs.YthnaggmafbhdmaaDoor
open Go.RowKit Go.Maps

def SK (v rv : Value) : Nat → Prop := fun k => v.ownBlock = some k ∨ rv.ownBlock = some k
/-- a log, and beside it a row v of records al, and a row rv of records rws; R: the log's records. -/
structure KA (w1 wr : World) (gd gl : Nat) (p : PD) (L : PL) (init : List (List Bs)) (cur : List Bs) (s : Nat) (n : Bs) (v rv : Value) (rws al : List Prt) (put : Nat) : Prop where
  wl : WL w1 wr gd p gl L (SK v rv)
  inv : LInv p L init cur s
  nm : L.name = n
  all : wr.ownsRow w1.heap.size 34 1 v al.length (al.map sl)
  allp : ∀ a ∈ al, a ∈ rws
  row : wr.ownsRow w1.heap.size 34 1 rv rws.length (rws.map sl)
  ne : ∀ k, v.ownBlock = some k → rv.ownBlock ≠ some k
  put : put ≤ init.flatten.length + s
theorem WL.far {w wr w' : World} {gd gl : Nat} {p : PD} {L : PL} {S S' C : Nat → Prop} (h : WL w wr gd p gl L S) (hf : Fr C wr w') (hC : ∀ k, k < wr.heap.size → C k → S k ∧ w.heap.size ≤ k) (hS : ∀ k, S' k → S k ∨ wr.heap.size ≤ k) (hl : ∀ k, S' k → k < w'.heap.size) : WL w w' gd p gl L S' := by
  obtain ⟨g, hg, hlg, ha, hs, ht⟩ := h
  refine ⟨g, hg, hlg.fr hf fun k hk hc => hs k (hC k (hlg.blk hk).2 hc).1 hk, ha.prot hf (fun k h1 h2 => ⟨.inr (hC k h1 h2).1, (hC k h1 h2).2⟩) fun k hk => ?_, fun k hk hb => ?_, hl⟩
  · rcases hk with hk | hk
    · exact .inl (.inl hk)
    · exact (hS k hk).imp .inr id
  · rcases hS k hk with h1 | h1
    · exact hs k h1 hb
    · have := (hlg.blk hb).2; omega
theorem WL.fits {w wr : World} {gd gl : Nat} {p : PD} {L : PL} {S : Nat → Prop} (h : WL w wr gd p gl L S) : ptotal p.files ≤ 1048576 := by
  obtain ⟨g, _, _, ha, _⟩ := h
  have := ha.fits
  omega
section
variable {w1 wr w' : World} {gd gl : Nat} {p p' : PD} {L L' : PL} {init init' : List (List Bs)} {cur cur' : List Bs} {s s' : Nat} {n : Bs} {v v' rv : Value} {rws al : List Prt} {put put' : Nat}
theorem KA.used (h : KA w1 wr gd gl p L init cur s n v rv rws al put) : L.used ≤ 1048576 := by
  rw [h.inv.used]
  rcases h.inv.curF with ⟨rfl, _⟩ | ⟨l, hf, _⟩
  · exact Nat.zero_le _
  · exact Nat.le_trans (find_len hf) h.wl.fits
theorem KA.few (h : KA w1 wr gd gl p L init cur s n v rv rws al put) (ha : al.length = L.recs.length) (h2 : al.length ≤ 100) : L.recs.length ≤ 19000000 := by omega
theorem KA.nofr (h : KA w1 wr gd gl p L init cur s n v rv rws al put) (hf : Fr NoBlk wr w') : KA w1 w' gd gl p L init cur s n v rv rws al put :=
  ⟨h.wl.nofr hf, h.inv, h.nm, own_fr h.all hf fun _ _ h => h, h.allp, own_fr h.row hf fun _ _ h => h, h.ne, h.put⟩
/-- a call of the log. -/
theorem KA.call (h : KA w1 wr gd gl p L init cur s n v rv rws al put) (hw : WL w1 w' gd p' gl L' (SK v rv)) (hf : Fr (Loose w1 (SK v rv)) wr w') (hi : LInv p' L' init' cur' s') (hn : L'.name = n) (hp : put' ≤ init'.flatten.length + s') : KA w1 w' gd gl p' L' init' cur' s' n v rv rws al put' :=
  ⟨hw, hi, hn, own_fr h.all hf fun k hk hc => hc.1 (.inl hk), h.allp, own_fr h.row hf fun k hk hc => hc.1 (.inr hk), h.ne, hp⟩
/-- the row v gets a record more. -/
theorem KA.grow (h : KA w1 wr gd gl p L init cur s n v rv rws al put) {q : Prt} (hq : q ∈ rws) (ho : w'.ownsRow w1.heap.size 34 1 v' (al.length + 1) (al.map sl ++ [sl q])) (hg : wr.grownBy w' v.ownBlock) (hb : v'.ownBlock = v.ownBlock ∨ v'.ownBlock = some wr.heap.size) : KA w1 w' gd gl p L init cur s n v' rv rws (al ++ [q]) put := by
  have hf : Fr (fun k => v.ownBlock = some k) wr w' := (Fr.ofGrown hg).mono fun _ _ e => e.symm
  refine ⟨h.wl.far hf (fun k _ hk => ⟨.inl hk, (own_lt h.all hk).1⟩) (fun k hk => ?_) (fun k hk => ?_), h.inv, h.nm, by rw [List.length_append, List.map_append]; exact ho, fun a ha => ?_, own_fr h.row hf fun k hk hc => h.ne k hc hk, fun k hk hr => ?_, h.put⟩
  · rcases hk with hk | hk
    · rcases hb with e | e
      · exact .inl (.inl (e ▸ hk))
      · rw [e] at hk
        injection hk with hk
        exact .inr (by omega)
    · exact .inl (.inr hk)
  · rcases hk with hk | hk
    · exact (own_lt ho hk).2
    · exact Nat.lt_of_lt_of_le (own_lt h.row hk).2 hf.size
  · rcases List.mem_append.1 ha with ha | ha
    · exact h.allp a ha
    · rw [List.mem_singleton.1 ha]; exact hq
  · rcases hb with e | e
    · exact h.ne k (e ▸ hk) hr
    · rw [e] at hk
      injection hk with hk
      have := (own_lt h.row hr).2
      omega
end
theorem lsync_name (p : PD) (L : PL) : (lsync p L).2.1.name = L.name ∧ (lsync p L).2.1.recs = L.recs := by
  unfold lsync
  split <;> exact ⟨rfl, rfl⟩
theorem lput_name (p : PD) (L : PL) (a b : Nat) (r : Bs) : (lput p L a b r).2.1.name = L.name ∧ ((lput p L a b r).2.2 = 0 → (lput p L a b r).2.1.recs = L.recs ++ [r]) ∧ ((lput p L a b r).2.2 ≠ 0 → (lput p L a b r).2.1.recs = L.recs) := by
  unfold lput
  split
  · exact ⟨rfl, fun _ => rfl, fun h => absurd rfl h⟩
  · rename_i h
    exact ⟨rfl, fun h2 => absurd h2 h, fun _ => rfl⟩
theorem lappend_name (p : PD) (L : PL) (r : Bs) : (lappend p L r).2.1.name = L.name ∧ ((lappend p L r).2.2 = 0 → (lappend p L r).2.1.recs = L.recs ++ [r]) ∧ ((lappend p L r).2.2 ≠ 0 → (lappend p L r).2.1.recs = L.recs) := by
  unfold lappend
  split
  · split
    · exact ⟨rfl, (fun h => by cases h), fun _ => rfl⟩
    · split
      · have h := lput_name (lsync p L).1 (lsync p L).2.1 (L.last + 1) 0 r
        rw [(lsync_name p L).1, (lsync_name p L).2] at h
        exact h
      · rename_i h
        exact ⟨(lsync_name p L).1, fun h2 => absurd h2 h, fun _ => (lsync_name p L).2⟩
  · exact lput_name _ _ _ _ _
end Go.Proofs.YthnaggmafbhdmaaDoor
