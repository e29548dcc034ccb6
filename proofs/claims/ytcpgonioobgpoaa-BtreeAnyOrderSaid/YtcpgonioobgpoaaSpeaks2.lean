/- The document's example holds of the program's tree. No condition. -/
import Derived.Test.YtcpgonioobgpoaaN8S
namespace Go.Proofs.Ytcpgonioobgpoaa
open Go.RowKit
theorem Stp.no {w w1 w2 : World} {O O2 : Nat → Prop} (hf : Fr NoBlk w w1) (hs : Stp w1 w2 O O2) (hO : ∀ b, O b → w.heap.size ≤ b) : Fr NoBlk w w2 ∧ ∀ b, O2 b → w.heap.size ≤ b :=
  ⟨hf.step hs.fr fun i hi h => by have := hO i h; omega, hs.le hf.size hO⟩
set_option maxRecDepth 100000 in
set_option maxHeartbeats 1000000 in
theorem speaks_any (w : World) : Calls Try.prog 9 #[] w fun e w' => e = .returned (.bool true) ∧ Fr NoBlk w w' := by
  have HN := Lib.hid (newS_any w)
  go_enter Try.func9, Try.ntmps9
  go_wp2_with fail
  refine HN.out.mono ?_
  clear HN
  rintro e w1 ⟨g, O, rfl, ht, hO, hf⟩
  have HO := Lib.hid (And.intro hf hO)
  have HP : Hid (Calls Try.prog 16 #[.pointer (some ⟨g, 0, none⟩), .string { data := #[98] }, .int .i64 1] w1 (TreePutS w1 g O [] [98] 1)) := treePutS_any w1 g O [] ht (by simp) [98] 1
  clear ht hO hf
  go_wp2_with fail
  refine HP.out.mono ?_
  clear HP
  rintro e w2 ⟨o2, h2, O2, rfl, hl2, ht2, hs2⟩
  have HO2 := Lib.hid (Stp.no HO.out.1 hs2 HO.out.2)
  have HP : Hid (Calls Try.prog 16 #[.pointer (some ⟨g, 0, none⟩), .string { data := #[97] }, .int .i64 2] w2 (TreePutS w2 g O2 [([98], 1)] [97] 2)) := treePutS_any w2 g O2 [([98], 1)] ht2 (by simp) [97] 2
  clear ht2 hs2 hl2 HO
  go_wp2_with fail
  refine HP.out.mono ?_
  clear HP
  rintro e w3 ⟨o3, h3, O3, rfl, hl3, ht3, hs3⟩
  have HO3 := Lib.hid (Stp.no HO2.out.1 hs3 HO2.out.2)
  have HP : Hid (Calls Try.prog 16 #[.pointer (some ⟨g, 0, none⟩), .string { data := #[98] }, .int .i64 3] w3 (TreePutS w3 g O3 [([97], 2), ([98], 1)] [98] 3)) := treePutS_any w3 g O3 [([97], 2), ([98], 1)] ht3 (by simp) [98] 3
  clear ht3 hs3 hl3 HO2
  go_wp2_with fail
  refine HP.out.mono ?_
  clear HP
  rintro e w4 ⟨o4, h4, O4, rfl, hl4, ht4, hs4⟩
  have HO4 := Lib.hid (Stp.no HO3.out.1 hs4 HO3.out.2)
  obtain ⟨rfl, rfl⟩ : h4 = true ∧ o4 = 1 := by
    rcases hl4 with ⟨h, hm⟩ | ⟨_, _, hn⟩
    · refine ⟨h, ?_⟩
      simp only [List.mem_cons, Prod.mk.injEq, List.not_mem_nil, or_false] at hm
      rcases hm with ⟨h1, _⟩ | ⟨_, h2⟩
      · exact absurd h1 (by decide)
      · exact h2
    · exact absurd (hn 1) (by simp)
  have ht5 : TreeS w4 g O4 [([97], 2), ([98], 3)] := ht4
  have HF : Hid (Calls Try.prog 18 #[.pointer (some ⟨g, 0, none⟩), .string { data := #[97, 97] }] w4 (TreeFirstS w4 [([97], 2), ([98], 3)] [97, 97])) := treeFirstS_any w4 g O4 _ ht5 [97, 97]
  have HT := Lib.hid ht5
  clear ht4 ht5 hs4 hl4 HO3
  go_wp2_with fail
  refine HF.out.mono ?_
  clear HF
  rintro e w5 ⟨k5, b5, rfl, hfst, hf5⟩
  obtain ⟨rfl, rfl⟩ : b5 = true ∧ k5 = [98] := by
    have hg : geL Op.bytesLess [97, 97] [(([97] : Bs), (2 : Int)), ([98], 3)] = [([98], 3)] := by rfl
    rcases hfst with ⟨h, v, t, h2⟩ | ⟨_, _, h2⟩
    · rw [hg] at h2
      injection h2 with h3 _
      injection h3 with h3 _
      exact ⟨h, h3.symm⟩
    · rw [hg] at h2; cases h2
  have HL : Hid (Calls Try.prog 36 #[.pointer (some ⟨g, 0, none⟩)] w5 fun e w' => e = .returned (.int .i64 2) ∧ w5 = w') := lenS_any w5 g O4 _ (HT.out.nofr hf5)
  have HF5 := Lib.hid hf5
  have hs98 : bstr [98] = { data := #[98] } := rfl
  clear hfst hf5
  rw [hs98]
  go_wp2_with fail
  refine HL.out.mono ?_
  rintro e w6 ⟨rfl, rfl⟩
  go_wp2_with fail
  go_ret
  exact ⟨by simp, HO4.out.1.trans HF5.out⟩
end Go.Proofs.Ytcpgonioobgpoaa
