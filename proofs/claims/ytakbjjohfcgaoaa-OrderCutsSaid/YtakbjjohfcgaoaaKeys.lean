/- The program's Keys. Conditions: the transaction is small. -/
import Derived.Test.YtakbjjohfcgaoaaKeysP
import Derived.Test.YtakbjjohfcgaoaaGreat
import Derived.Lib.RowBridge
namespace Go.Proofs.Ytakbjjohfcgaoaa
open Go.RowKit

structure KeysAt (w w' : World) (A : Option Addr) (c : Nat) (ks : List Bs) : Prop where
  rd : Rd w' A (sts ks)
  le : ks.length ≤ c
  max : c ≤ maxLen
  nil : A = none → c = 0
  own : ∀ k, ablk A k → w.heap.size ≤ k
  fr : Fr NoBlk w w'
def KeysPost (w : World) (rs ws : List Bs) (e : Ending) (w' : World) : Prop := ∃ A c ks, e = .returned (.slice A ks.length c) ∧ IsKeys ks rs ws ∧ KeysAt w w' A c ks

theorem holds_own {w : World} {base g n c : Nat} {xs : List Bs} (h : w.ownsRow base 9 1 (.slice (some ⟨g, 0, none⟩) n c) xs.length (sts xs)) : Sort.Holds encStr w g 0 xs.toArray := by
  intro j hj
  have hj' : j < xs.length := by simpa using hj
  rcases h.2 with ⟨h1, _⟩ | ⟨g', cap, cur, h1, h2, hh, hnc, hcm, hcs, htake⟩
  · cases h1
  · have hgg : g' = g := by
      injection h1 with h1
      injection h1 with h1
      injection h1 with h1
      exact h1.symm
    subst hgg
    refine ⟨?_, by simp [World.frozen?, hh]⟩
    rw [cell_of_row w g' _ cur 9 (0, 0) hh, Nat.zero_add]
    have e : (sts xs)[j]? = some (st xs[j]) := by simp [sts, hj']
    rw [← htake, List.getElem?_take, if_pos (by rw [Nat.mul_one]; exact hj')] at e
    simpa [hj', encStr, st, bstr] using e

set_option maxRecDepth 100000 in
set_option maxHeartbeats 1000000 in
theorem keys_any (w : World) (t : Tx) (ht : TxIn w t) (hr : t.reads.length ≤ 1000) (hw : t.writes.length ≤ 1000) :
    Calls Try.prog 46 #[txv t] w (KeysPost w t.reads t.writes) := by
  have HFA : Hid (Fr NoBlk w ((w.alloc (.cells (txa t) 30)).alloc (.cells #[.slice t.ra t.reads.length t.rc, .slice t.wa t.writes.length t.wc] 27))) := ((Fr.refl _ _).alloc _).alloc _
  have HC : Hid (Rd ((w.alloc (.cells (txa t) 30)).alloc (.cells #[.slice t.ra t.reads.length t.rc, .slice t.wa t.writes.length t.wc] 27)) (some ⟨w.heap.size + 1, 0, none⟩) ([(t.ra, t.rc, t.reads), (t.wa, t.wc, t.writes)].map slS)) := Rd.of_cells (Bk.new' _ _ _ (by simp))
  have HQ := Lib.hid (concat_any _ (some ⟨w.heap.size + 1, 0, none⟩) 2 2 [(t.ra, t.rc, t.reads), (t.wa, t.wc, t.writes)] rfl HC.out (fun p hp => by
    simp only [List.mem_cons, List.not_mem_nil, or_false] at hp
    rcases hp with rfl | rfl
    · exact ⟨ht.reads.nofr HFA.out, ht.rl.2.2⟩
    · exact ⟨ht.writes.nofr HFA.out, ht.wl.2.2⟩) (by show 2 ≤ 1000; omega) (by simp [allOf]; omega))
  have hall : allOf [(t.ra, t.rc, t.reads), (t.wa, t.wc, t.writes)] = t.reads ++ t.writes := by simp [allOf]
  rw [hall] at HQ
  have HL : Hid ((t.reads ++ t.writes).length ≤ 2000) := by show _ ≤ _; rw [List.length_append]; omega
  clear ht HC hall
  unfold txa at HFA HQ
  unfold txv txa
  go_enter Try.func46, Try.ntmps46
  go_wp2_with fail
  refine HQ.out.mono ?_
  rintro e w1 ⟨v1, rfl, hn1⟩
  have HF1 := Lib.hid (HFA.out.trans hn1.fr)
  have HCK := Lib.hid (compact_keys t.reads t.writes)
  have hsz := hn1.fr.size
  simp at hsz
  have hws : w.heap.size ≤ w1.heap.size := by omega
  clear HQ
  rcases hn1.own.2 with ⟨rfl, he⟩ | ⟨g, cap, cur, rfl, hgb, hh, hnc, hcm, hcs, htake⟩
  · have HE : Hid (t.reads ++ t.writes = []) := by
      exact List.eq_nil_of_length_eq_zero he
    have hs := Try.slices_Sort_string_none none 0 w1
    have HSo := Lib.hid hs
    have HCo := Lib.hid (Try.slices_Compact_string_empty none 0)
    clear hn1 he hs
    go_wp2_with fail
    refine HSo.out.mono ?_
    rintro e w2 ⟨rfl, rfl⟩
    go_wp2_with fail
    refine (HCo.out _).mono ?_
    rintro e w3 ⟨rfl, rfl⟩
    go_wp2_with fail
    go_ret
    rw [HE.out] at HCK
    refine ⟨none, 0, [], rfl, ?_, ⟨Rd.none_ _ _, Nat.le_refl _, Nat.zero_le _, (fun _ => rfl), (fun k ⟨_, h, _⟩ => by cases h), HF1.out⟩⟩
    have h := HCK.out
    have e0 : Lib.compact (([] : List Bs).mergeSort leS) = [] := by simp [Lib.compact, Lib.compactUpTo]
    rwa [e0] at h
  · have hH := holds_own hn1.own
    have hgl : g < w1.heap.size := (Array.getElem?_eq_some_iff.1 hh).1
    have hgb' : w.heap.size ≤ g := by
      simp at hgb
      omega
    have hso := Try.slices_Sort_string g 0 cap (t.reads ++ t.writes) w1 hH hgl (by have := HL.out; omega)
    have HSo := Lib.hid hso
    have HH := Lib.hid hH
    have HNC := Lib.hid hnc
    have HCM := Lib.hid hcm
    clear hn1 hh hcs htake hso hH hnc hcm
    generalize hN : (t.reads ++ t.writes).length = N at *
    have HNN := Lib.hid hN
    clear hN
    go_wp2_with fail
    refine HSo.out.mono ?_
    rintro e w2 ⟨rfl, n2, os2, hw2⟩
    have hm2 : (fun x y : Bs => decide (x ≤ y)) = leS := rfl
    rw [hm2] at hw2
    have HF2 : Hid (Fr (fun k => k = g) w1 w2) := by
      show Fr _ _ _
      rw [hw2]
      exact ((Fr.ahead _ _ _).trans (Fr.putRow _ _ _ _)).trans (Fr.grow _ _ _)
    have HH2 : Hid (Sort.Holds encStr w2 g 0 ((t.reads ++ t.writes).mergeSort leS).toArray) := by
      show Sort.Holds _ _ _ _ _
      rw [hw2]
      refine Sort.holds_grow _ _ _ _ _ _ (by simpa [Sort.putRow, Sort.mapBlock, Sort.ahead] using hgl) (Sort.holds_putRow _ _ _ _ (t.reads ++ t.writes).toArray _ (Sort.holds_ahead _ _ _ _ _ _ HH.out) (by simp))
    have HLS : Hid (((t.reads ++ t.writes).mergeSort leS).length = N) := by show _ = _; rw [List.length_mergeSort]; exact HNN.out
    clear hw2 HSo HH hm2
    have hco := Try.slices_Compact_string g 0 cap ((t.reads ++ t.writes).mergeSort leS) w2 HH2.out (by have := HL.out; rw [HLS.out]; omega) (by rw [HLS.out]; exact HNC.out)
    rw [HLS.out] at hco
    generalize ((t.reads ++ t.writes).mergeSort leS) = ss at *
    have HCo := Lib.hid hco
    clear hco
    go_wp2_with fail
    refine HCo.out.mono ?_
    rintro e w3 ⟨rfl, q3, hw3⟩
    have hcl : (Lib.compact ss).length ≤ ss.length := Lib.compact_length_le ss
    have HF3 : Hid (Fr (fun k => k = g) w2 w3) := by
      show Fr _ _ _
      rw [hw3]
      exact (Fr.ahead _ _ _).trans (Fr.putRow _ _ _ _)
    have HR3 : Hid (Rd w3 (some ⟨g, 0, none⟩) (sts (Lib.compact ss))) := by
      show Rd _ _ _
      rw [hw3]
      intro _
      refine ⟨g, 0, rfl, fun j v hj => ?_⟩
      have hjl := (List.getElem?_eq_some_iff.1 hj).1
      rw [sts_len] at hjl
      rw [Sort.cell?_putRow encStr (Sort.ahead w2 q3) g 0 ss.toArray _ (Sort.holds_ahead _ _ _ _ _ _ HH2.out) (by simp; rw [← HLS.out]; omega) j (by simp; omega), ← hj]
      simp [sts, hjl, encStr, st, bstr, List.getElem?_append]
    have HCL : Hid ((Lib.compact ss).length ≤ cap) := by
      show _ ≤ _
      have h1 := HLS.out; have h2 := HNC.out
      omega
    clear hw3 hcl
    generalize Lib.compact ss = ks at *
    go_wp2_with fail
    go_ret
    exact ⟨some ⟨g, 0, none⟩, cap, ks, rfl, HCK.out, ⟨HR3.out, HCL.out, HCM.out, (fun h => by cases h), (fun k ⟨a, e, h⟩ => by injection e with e; subst e; simp only at h; omega), (HF1.out.step HF2.out (fun i hi e => by omega)).step HF3.out (fun i hi e => by omega)⟩⟩
end Go.Proofs.Ytakbjjohfcgaoaa
