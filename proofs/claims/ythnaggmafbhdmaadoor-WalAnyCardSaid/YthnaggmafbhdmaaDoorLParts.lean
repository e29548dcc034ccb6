/- The log's Parts: how many of its files there are. No condition. -/
import Derived.Test.YthnaggmafbhdmaaDoorLRecs
import Derived.Test.YthnaggmafbhdmaaDoorRemL
namespace Go.Proofs.YthnaggmafbhdmaaDoor
open Go.RowKit Go.Maps

def pcount (ns : List Bs) (n : Bs) (k : Nat) : Nat := ((List.range k).filter fun i => inB ns (lfile n i)).length
theorem pcount_yes {ns : List Bs} {n : Bs} {k : Nat} (h : inB ns (lfile n k) = true) : pcount ns n (k + 1) = pcount ns n k + 1 := by
  unfold pcount
  rw [List.range_succ, List.filter_append, List.length_append, List.filter_cons, if_pos h]
  rfl
theorem pcount_no {ns : List Bs} {n : Bs} {k : Nat} (h : inB ns (lfile n k) = false) : pcount ns n (k + 1) = pcount ns n k := by
  unfold pcount
  rw [List.range_succ, List.filter_append, List.length_append, List.filter_cons, if_neg (by rw [h]; decide)]
  rfl
theorem pcount_le (ns : List Bs) (n : Bs) (k : Nat) : pcount ns n k ≤ k := by
  unfold pcount
  have := List.length_filter_le (fun i => inB ns (lfile n i)) (List.range k)
  rwa [List.length_range] at this
theorem pcount_all {ns : List Bs} {n : Bs} : ∀ k, (∀ i, i < k → inB ns (lfile n i) = true) → pcount ns n k = k := by
  intro k
  induction k with
  | zero => exact fun _ => rfl
  | succ k ih => exact fun h => by rw [pcount_yes (h k (by omega)), ih fun i hi => h i (by omega)]
set_option maxRecDepth 100000 in
set_option maxHeartbeats 2000000 in
theorem lparts_any (w w0 : World) (gd gl : Nat) (p : PD) (L : PL) (S : Nat → Prop) (h : WL w w0 gd p gl L S) :
    Calls Tryd.prog 17 #[.pointer (some ⟨gl, 0, none⟩)] w0 fun e w' => e = .returned (.int .i64 (pcount (p.files.map (·.name)) L.name 10)) ∧ Fr NoBlk w0 w' := by
  obtain ⟨g, hgp, hlg, hag, hsg, htg⟩ := h
  subst hgp
  have c0 : w0.cell? ⟨gl, 0, none⟩ = some (.pointer (some ⟨gd, 0, none⟩)) := hlg.bk.cell 0
  have HN := Lib.hid (namesN hag)
  have HLG := Lib.hid hlg
  have hfl := hag.fits.2.2.1
  obtain ⟨n, hn⟩ : ∃ n, n = g.name := ⟨_, rfl⟩
  have HNE := Lib.hid hn
  rw [show g.pl.name = n from hn.symm]
  clear hlg hag hsg htg hn
  go_enter Tryd.func17, Tryd.ntmps17
  go_wp2_with fail
  refine HN.out.mono ?_
  clear HN
  rintro e w1 ⟨A1, c1, rfl, ht1⟩
  obtain ⟨ns, hns⟩ : ∃ ns, ns = p.files.map (·.name) := ⟨_, rfl⟩
  have hnl : ns.length ≤ 32 := by rw [hns, List.length_map]; exact hfl
  rw [← hns] at ht1 ⊢
  have HNSE := Lib.hid hns
  have HRN := Lib.hid ht1.rd
  have HF1 := Lib.hid ht1.fr
  have HB1 := Lib.hid (HLG.out.bk.fr ht1.fr fun h => h)
  clear hns ht1 hfl c0
  go_wp2_with fail
  go_loopw [4, 11] (fun u s wr => ∃ k : Nat, k ≤ 10 ∧ s = .int .i64 k ∧ u = .int .i64 (pcount ns n k) ∧ Hid (Fr NoBlk w1 wr)) (fun _ s _ => 10 - (intOf s).toNat)
  case atStart => exact ⟨0, Nat.zero_le _, rfl, rfl, Fr.refl _ _⟩
  case round =>
    obtain ⟨k, hk, rfl, rfl, HW⟩ := hrel
    have hpc := pcount_le ns n k
    by_cases hlt : k < 10
    · have HFI : Hid (Calls Tryd.prog 23 #[.pointer (some ⟨gl, 0, none⟩), .int .i64 k] wr fun e w' => e = .returned (.string (bstr (lfile n k))) ∧ wr = w') := by
        have h := file_any wr gd gl g (HB1.out.fr HW.out fun h => h) HLG.out.nm k (by omega)
        rw [← HNE.out] at h
        exact h
      have HCO := Lib.hid (contains_any wr A1 ns.length c1 ns (lfile n k) rfl (HRN.out.nofr HW.out) (by unfold maxLen; omega))
      cases hin : inB ns (lfile n k) with
      | true =>
        have HST := Lib.hid (pcount_yes hin)
        rw [hin] at HCO
        clear hin
        generalize lfile n k = nk at *
        go_wp2_with fail
        refine HFI.out.mono ?_
        clear HFI
        rintro e w3 ⟨rfl, rfl⟩
        go_wp2_with fail
        refine HCO.out.mono ?_
        clear HCO
        rintro e w4 ⟨rfl, rfl⟩
        go_wp2_with fail
        go_roundw
        case rel => exact ⟨k + 1, by omega, by go_num, by rw [HST.out]; go_num, HW⟩
        case measure => simp [intOf]; omega
      | false =>
        have HST := Lib.hid (pcount_no hin)
        rw [hin] at HCO
        clear hin
        generalize lfile n k = nk at *
        go_wp2_with fail
        refine HFI.out.mono ?_
        clear HFI
        rintro e w3 ⟨rfl, rfl⟩
        go_wp2_with fail
        refine HCO.out.mono ?_
        clear HCO
        rintro e w4 ⟨rfl, rfl⟩
        go_wp2_with fail
        go_roundw
        case rel => exact ⟨k + 1, by omega, by go_num, by rw [HST.out], HW⟩
        case measure => simp [intOf]; omega
    · obtain rfl : k = 10 := by omega
      go_wp2_with fail
      go_ret
      exact ⟨by rw [← HNSE.out]; rfl, HF1.out.trans HW.out⟩
end Go.Proofs.YthnaggmafbhdmaaDoor
