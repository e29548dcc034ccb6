/- The document's example. No condition. -/
import Derived.Test.YtkdcacajacndmaaStA
import Derived.BigQuiet
namespace Go.Proofs.Ytkdcacajacndmaa
open Go.RowKit
theorem Stp.new_fr {w w1 w2 : World} {o o' : Nat → Prop} (hf : Fr NoBlk w w1) (h : Stp w1 w2 o o') (ho : ∀ b, o b → w.heap.size ≤ b) : Fr NoBlk w w2 ∧ ∀ b, o' b → w.heap.size ≤ b :=
  ⟨hf.step h.fr fun i hi e => by have := ho i e; omega, fun b hb => (h.new b hb).elim (ho b) fun e => Nat.le_trans hf.size e⟩
set_option maxRecDepth 100000 in
set_option maxHeartbeats 1000000 in
theorem speaks_any [Ex] (w : World) (hx : ExL w.heap.size) : Calls Try.prog 10 #[] w fun e w' => e = .returned (.bool true) ∧ Fr NoBlk w w' := by
  go_enter Try.func10, Try.ntmps10
  go_wp2_with fail
  refine (snew_any w hx 3).mono ?_
  rintro e w1 (⟨_, _, g, O, rfl, hs, hO, hf⟩ | ⟨h, _⟩)
  rotate_left
  · exact absurd ⟨by decide, by decide⟩ h
  have hs : Store w1 g O 3 [] := hs
  have HM : Hid (Calls Try.prog 29 #[.pointer (some ⟨g, 0, none⟩), .string { data := #[97] }, .int .i64 2] w1 (MovePost w1 g O 3 [] [97] 2)) := smove_any w1 g O 3 [] hs (by decide) [97] (by decide) 2
  have HO := Lib.hid hO
  have HF := Lib.hid hf
  clear hs hO hf
  go_wp2_with fail
  refine HM.out.mono ?_
  clear HM
  rintro e w2 ⟨rfl, O2, hs, hst⟩
  obtain ⟨hf2, ho2⟩ := hst.new_fr HF.out HO.out
  have he : moveE 3 [] [97] 2 = 0 := by decide
  have hr : moveR 3 [] [97] 2 = [([97], ⟨false, [], 2, 1⟩)] := by rfl
  rw [he]
  rw [hr] at hs
  have hg : rget 3 [([97], (⟨false, [], 2, 1⟩ : Rec))] [97] = ⟨false, [], 2, 1⟩ := by rfl
  have HG : Hid (Calls Try.prog 16 #[.pointer (some ⟨g, 0, none⟩), .string { data := #[97] }] w2 (GetPost w2 ⟨false, [], 2, 1⟩)) := by
    have h := sget_any w2 g O2 3 _ hs [97] (by decide) (by show (rget 3 _ _).val.length ≤ _; rw [hg]; decide)
    show Calls _ _ _ _ _
    have e : rget ((3 : Nat) : Int) [([97], (⟨false, [], 2, 1⟩ : Rec))] [97] = ⟨false, [], 2, 1⟩ := hg
    rw [e] at h
    exact h
  have HF2 := Lib.hid hf2
  clear hs hst ho2 hf2 he hr hg
  go_wp2_with fail
  refine HG.out.mono ?_
  clear HG
  rintro e w3 ⟨v, rfl, hfr, hf3⟩
  unfold vaR
  obtain ⟨hh, hm, hc⟩ := And.intro hfr.has (And.intro hfr.home hfr.count)
  dsimp only at hh hm hc
  rw [hh, hm, hc]
  have HF3 : Hid (Fr NoBlk w w3) := HF2.out.trans hf3
  obtain ⟨w4, hw4⟩ : ∃ W, W = w3.alloc (.cells #[.bool false, .slice v.va v.vn v.vc, .int .i64 2, .int .u64 1] 38) := ⟨_, rfl⟩
  have HB4 : Hid (Bk w4 w3.heap.size 38 #[.bool false, .slice v.va v.vn v.vc, .int .i64 2, .int .u64 1]) := by show Bk _ _ _ _; rw [hw4]; exact Bk.new _ _ _
  have HF4 : Hid (Fr NoBlk w w4) := by show Fr _ _ _; rw [hw4]; exact HF3.out.alloc _
  obtain ⟨p, hp⟩ : ∃ p, p = w3.heap.size := ⟨_, rfl⟩
  have HP := Lib.hid hp
  rw [← hp] at HB4
  have HW4 := Lib.hid hw4
  have HD : Hid (∀ W, Calls Try.prog 20 #[.string { data := #[97] }, .int .i64 3] W fun e w' => e = .returned (.int .i64 1) ∧ W = w') := fun W => default_any W [97] 3 (by decide)
  clear hfr hf3 hh hm hc hw4 hp
  go_upto_region 6 with fail
  rw [← HW4.out, ← HP.out]
  clear HW4 HP
  have d0 : w4.cell? ⟨p, 0, none⟩ = some (.bool false) := HB4.out.cell 0
  have d2 : w4.cell? ⟨p, 2, none⟩ = some (.int .i64 2) := HB4.out.cell 2
  have d3 : w4.cell? ⟨p, 3, none⟩ = some (.int .u64 1) := HB4.out.cell 3
  go_wp2_with fail
  refine (HD.out w4).mono ?_
  rintro e w5 ⟨rfl, rfl⟩
  clear HD
  go_wp2_with fail
  go_ret
  exact ⟨rfl, HF4.out⟩
end Go.Proofs.Ytkdcacajacndmaa
