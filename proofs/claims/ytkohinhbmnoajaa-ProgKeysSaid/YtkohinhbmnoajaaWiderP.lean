/- A right transaction whose keys are all among its Writes is right; how many keys there are. No condition. -/
import Derived.Test.YtkohinhbmnoajaaKeys
import Derived.Test.YtkohinhbmnoajaaAlike
namespace Go.Proofs.Ytkohinhbmnoajaa
open Go.RowKit

theorem Up.nodup {xs : List Bs} (h : Up xs) : xs.Nodup := List.Pairwise.imp (fun hab => less_ne hab) h
theorem keys_len {ks rs ws : List Bs} (hr : Up rs) (hw : Up ws) (hd : ∀ a ∈ rs, a ∉ ws) (hk : IsKeys ks rs ws) : ks.length = rs.length + ws.length := by
  have hnd : (rs ++ ws).Nodup := List.nodup_append.2 ⟨Up.nodup hr, Up.nodup hw, fun a ha b hb e => hd a ha (e ▸ hb)⟩
  have hnd2 : ((rs ++ ws).mergeSort leS).Nodup := (List.mergeSort_perm _ _).nodup_iff.2 hnd
  have hup : Up ((rs ++ ws).mergeSort leS) := by
    have h := (sorted_S (rs ++ ws)).and hnd2
    refine h.imp ?_
    rintro a b ⟨h1, h2⟩
    cases h3 : Op.bytesLess a b
    · exact absurd (less_total h3 h1) h2
    · rfl
  have e : ks = (rs ++ ws).mergeSort leS := hk.unique ⟨hup, fun a => by rw [List.mem_mergeSort, List.mem_append]⟩
  rw [e, List.length_mergeSort, List.length_append]

theorem right_parts {t : Tx} {r : Int} (h : rightR t r = true) : 1 ≤ r ∧ r ≤ 3 ∧ t.reads.length + t.writes.length ≤ 8 ∧ Up t.reads ∧ Up t.writes ∧ (∀ a ∈ t.reads, a ∉ t.writes) ∧ (∀ a ∈ t.reads, noKey a = false) ∧ (∀ a ∈ t.writes, noKey a = false) ∧ kindR t r = true := by
  simp only [rightR, keysR, Bool.and_eq_true, decide_eq_true_eq, Bool.not_eq_true', List.any_eq_false] at h
  obtain ⟨⟨⟨h1, h2⟩, ⟨⟨⟨⟨h3, h4⟩, h5⟩, h6⟩, h7⟩, h8⟩, h9⟩ := h
  refine ⟨h1, h2, h3, (riseB_iff _).1 h4, (riseB_iff _).1 h5, fun a ha hb => ?_, fun a ha => by simpa using h7 a ha, fun a ha => by simpa using h8 a ha, h9⟩
  have := h6 a ha
  rw [(inB_iff _ _).2 hb] at this
  exact this rfl
theorem right_mk {t : Tx} {r : Int} (h1 : 1 ≤ r) (h2 : r ≤ 3) (h3 : t.reads.length + t.writes.length ≤ 8) (h4 : Up t.reads) (h5 : Up t.writes) (h6 : ∀ a ∈ t.reads, a ∉ t.writes) (h7 : ∀ a ∈ t.reads, noKey a = false) (h8 : ∀ a ∈ t.writes, noKey a = false) (h9 : kindR t r = true) : rightR t r = true := by
  simp only [rightR, keysR, Bool.and_eq_true, decide_eq_true_eq, Bool.not_eq_true', List.any_eq_false]
  refine ⟨⟨⟨h1, h2⟩, ⟨⟨⟨⟨h3, (riseB_iff _).2 h4⟩, (riseB_iff _).2 h5⟩, fun a ha => ?_⟩, fun a ha => by rw [h7 a ha]; simp⟩, fun a ha => by rw [h8 a ha]; simp⟩, h9⟩
  intro hb
  exact h6 a ha ((inB_iff _ _).1 hb)

theorem rOp_wider {wr rd ke : Bool} {k : Int} {vl : Nat} {n : Int} (h : rOp wr rd ke k vl n = true) : rOp (rd || wr) false ke k vl n = true := by
  unfold rOp at h ⊢
  cases wr <;> cases rd <;> simp_all <;> (repeat' split at h) <;> simp_all

def widerT (u : Tx) (A : Option Addr) (c : Nat) (ks : List Bs) : Tx := ⟨u.kind, none, 0, [], A, c, ks, u.oa, u.oc, u.ops, u.to⟩
theorem wider_right {w w' : World} {t u : Tx} {A : Option Addr} {c : Nat} {ks : List Bs} (hc : Copied w w' t u) (hk : IsKeys ks t.reads t.writes) (hr : rightR t 3 = true) (h1 : t.kind = 1) : rightR (widerT u A c ks) 3 = true := by
  obtain ⟨_, _, a3, a4, a5, a6, a7, a8, a9⟩ := right_parts hr
  refine right_mk (by omega) (by omega) ?_ List.Pairwise.nil hk.1 (fun a h => by cases h) (fun a h => by cases h) (fun a ha => ?_) ?_
  · show 0 + ks.length ≤ 8
    rw [keys_len a4 a5 a6 hk]
    omega
  · rcases (hk.2 a).1 ha with h | h
    · exact a7 a h
    · exact a8 a h
  · unfold kindR at a9 ⊢
    rw [if_pos h1] at a9
    rw [if_pos (show (widerT u A c ks).kind = 1 from hc.kind.trans h1)]
    simp only [Bool.and_eq_true, decide_eq_true_eq, Bool.not_eq_true', List.any_eq_false] at a9 ⊢
    obtain ⟨⟨b1, b2⟩, b3⟩ := a9
    refine ⟨⟨hc.to_.trans b1, by show u.ops.length ≤ 16; rw [hc.ops.1]; exact b2⟩, fun x hx => ?_⟩
    change x ∈ u.ops at hx
    obtain ⟨j, hj, rfl⟩ := List.getElem_of_mem hx
    have hj2 : j < t.ops.length := by rw [← hc.ops.1]; exact hj
    obtain ⟨e1, e2, e3, e4⟩ := hc.ops.2 j _ _ (List.getElem?_eq_getElem hj) (List.getElem?_eq_getElem hj2)
    have hb := b3 _ (List.getElem_mem hj2)
    simp only [Bool.not_eq_false] at hb
    have hw := rOp_wider hb
    have hin : inB ks u.ops[j].key = (inB t.reads t.ops[j].key || inB t.writes t.ops[j].key) := by
      rw [e2, Bool.eq_iff_iff, inB_iff, hk.2, Bool.or_eq_true, inB_iff, inB_iff]
    simp only [Bool.not_eq_false]
    show rOp (inB ks u.ops[j].key) false u.ops[j].key.isEmpty u.ops[j].kind u.ops[j].val.2.2.length u.ops[j].n = true
    rw [hin, e1, e2, e3, e4]
    exact hw
theorem keys_again {ks ks' rs ws : List Bs} (h : IsKeys ks rs ws) (h' : IsKeys ks' [] ks) : ks' = ks :=
  up_unique h'.1 h.1 fun a => by rw [h'.2]; simp
end Go.Proofs.Ytkohinhbmnoajaa
