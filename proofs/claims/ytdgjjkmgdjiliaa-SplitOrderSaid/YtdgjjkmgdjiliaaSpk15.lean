/- The document's example of layer 15. No condition. -/
import Derived.Test.YtdgjjkmgdjiliaaPcs
import Derived.Test.YtdgjjkmgdjiliaaTwo15
namespace Go.Proofs.Ytdgjjkmgdjiliaa
open Go.RowKit Go.Maps

theorem tw_homes (a b : Int) (h : a < b) : homesOf (twM a b) = [a, b] := by
  refine (homesOf_is (by simp [twM])).unique ⟨by unfold UpI; simp [h], fun x => ?_⟩
  simp [twM, homesI]
theorem tw_single {g sq : Nat} {a b : Int} (h : a < b) : singleOf (twO g sq a b) = false := by
  show (decide ((1 : Int) = 1) && decide ((homesOf (twM a b)).length = 1)) = false
  rw [tw_homes a b h]
  rfl
def exL (g h : Nat) : List Od := [twO g 1 0 1, twO h 2 1 2]
theorem ex_pcs1 (g h : Nat) : pcs 1 (exL g h) 2 = [(0, twO g 1 0 1), (1, twO h 2 1 2)] := by
  have h0 : takeB 1 (exL g h) 0 (twO g 1 0 1) = true := by
    unfold takeB firstAt
    rw [tw_single (by decide), show (twO g 1 0 1).marks = twM 0 1 from rfl, tw_homes 0 1 (by decide)]
    rfl
  have h1 : takeB 1 (exL g h) 1 (twO h 2 1 2) = true := by
    unfold takeB firstAt
    rw [tw_single (by decide), show (twO h 2 1 2).marks = twM 1 2 from rfl, tw_homes 1 2 (by decide)]
    simp [exL, ahead, tgOf, twO]
  rw [pcs_yes (n := 1) (o := twO h 2 1 2) rfl h1, pcs_yes (n := 0) (o := twO g 1 0 1) rfl h0]
  rfl
theorem ex_pcs2 (g h : Nat) : pcs 2 (exL g h) 2 = [(1, twO h 2 1 2)] := by
  have h0 : takeB 2 (exL g h) 0 (twO g 1 0 1) = false := by
    unfold takeB
    rw [show (twO g 1 0 1).marks = twM 0 1 from rfl, tw_homes 0 1 (by decide)]
    simp
  have h1 : takeB 2 (exL g h) 1 (twO h 2 1 2) = true := by
    unfold takeB firstAt
    rw [tw_single (by decide), show (twO h 2 1 2).marks = twM 1 2 from rfl, tw_homes 1 2 (by decide)]
    simp [exL, ahead, tgOf, twO]
  rw [pcs_yes (n := 1) (o := twO h 2 1 2) rfl h1, pcs_no (n := 0) (o := twO g 1 0 1) rfl h0]
  rfl
theorem tw_small (g sq : Nat) (a b : Int) : OSmall (twO g sq a b) := by
  refine ⟨?_, by show 2 ≤ 60; omega, fun m hm => ?_⟩
  · exact ⟨Nat.zero_le _, Nat.zero_le _, Nat.zero_le _, (fun k hk => by cases hk), (fun k hk => by cases hk), (fun k hk => by cases hk)⟩
  · simp only [twO, twM, List.mem_cons, List.not_mem_nil, or_false] at hm
    rcases hm with rfl | rfl <;> exact Nat.zero_le _
theorem own_zero {w : World} {base n c : Nat} {e : TypeId} {A : Option Addr} {xs : List Value} (h : w.ownsRow base e 12 (.slice A n c) n xs) (hn : 0 < n) : ∃ g, A = some ⟨g, 0, none⟩ := by
  rcases h.2 with ⟨hv, rfl⟩ | ⟨g, cap, cur, hv, _⟩
  · omega
  · exact ⟨g, by injection hv⟩

set_option maxRecDepth 100000 in
set_option maxHeartbeats 2000000 in
theorem speaks15_any (w : World) : Calls Try.prog 29 #[] w fun e w' => e = .returned (.bool true) ∧ Fr NoBlk w w' := by
  go_enter Try.func29, Try.ntmps29
  go_wp2_with fail
  refine (two_any w 1 0 1).mono ?_
  rintro e w1 ⟨rfl, hb1, hf1⟩
  obtain ⟨g, hg⟩ : ∃ g, g = w.heap.size + 1 := ⟨_, rfl⟩
  rw [← hg] at hb1 ⊢
  have H1 := Lib.hid (And.intro hb1 hf1)
  clear hb1 hf1 hg
  go_wp2_with fail
  refine (two_any w1 2 1 2).mono ?_
  rintro e w2 ⟨rfl, hb2, hf2⟩
  obtain ⟨h, hh⟩ : ∃ h, h = w1.heap.size + 1 := ⟨_, rfl⟩
  rw [← hh] at hb2 ⊢
  obtain ⟨w3, hw3⟩ : ∃ w3, w3 = w2.alloc (.cells (odsc (exL g h)).toArray 38) := ⟨_, rfl⟩
  have hf3 : Fr NoBlk w2 w3 := by rw [hw3]; exact (Fr.refl _ _).alloc _
  have HLG : Hid (LogIn w3 (some ⟨w2.heap.size, 0, none⟩) (exL g h)) := by
    refine ⟨Rd.of_cells (by rw [hw3]; exact Bk.new _ _ _), fun o ho => ?_, by show 2 ≤ 40; omega⟩
    simp only [exL, List.mem_cons, List.not_mem_nil, or_false] at ho
    rcases ho with rfl | rfl
    · exact ⟨tw_in (H1.out.1.fr (hf2.trans hf3) fun e => e) (by decide), by show 2 ≤ 1000; omega, ⟨by show (Lit.int .i64 0).wf = true; rfl, by show 0 < two64; decide, by show 1 < two64; decide, by show (Lit.int .i64 0).wf = true; rfl⟩⟩
    · exact ⟨tw_in (hb2.fr hf3 fun e => e) (by decide), by show 2 ≤ 1000; omega, ⟨by show (Lit.int .i64 0).wf = true; rfl, by show 0 < two64; decide, by show 2 < two64; decide, by show (Lit.int .i64 0).wf = true; rfl⟩⟩
  have HSM : Hid (∀ o ∈ exL g h, OSmall o) := fun o ho => by
    simp only [exL, List.mem_cons, List.not_mem_nil, or_false] at ho
    rcases ho with rfl | rfl <;> exact tw_small _ _ _ _
  have HF3 : Hid (Fr NoBlk w w3) := H1.out.2.trans (hf2.trans hf3)
  have HW3 := Lib.hid hw3
  have HP1 := Lib.hid (spieces_any w3 (some ⟨w2.heap.size, 0, none⟩) 2 (exL g h) 1 HLG.out HSM.out)
  rw [show (exL g h).length = 2 from rfl, ex_pcs1] at HP1
  unfold odv oda twO twM
  dsimp only
  clear hb2 hf2 hf3 hw3 hh H1
  go_wp2_with fail
  have hk1 := HP1.out
  rw [HW3.out] at hk1
  refine hk1.mono ?_
  clear hk1 HP1
  rintro e w4 ⟨A1, c1, its1, rfl, ho1, hi1, hf4⟩
  rw [← HW3.out] at hf4 ho1 hi1
  have HF4 := Lib.hid (HF3.out.trans hf4)
  have HP2 := Lib.hid (spieces_any w4 (some ⟨w2.heap.size, 0, none⟩) 2 (exL g h) 2 (HLG.out.nofr hf4) HSM.out)
  rw [show (exL g h).length = 2 from rfl, ex_pcs2] at HP2
  have H4 := Lib.hid (And.intro ho1 hi1)
  clear hf4 ho1 hi1 HW3
  dsimp only [List.length_cons, List.length_nil]
  go_wp2_with fail
  refine HP2.out.mono ?_
  clear HP2
  rintro e w5 ⟨A2, c2, its2, rfl, ho2, hi2, hf5⟩
  have HF5 := Lib.hid (HF4.out.trans hf5)
  obtain ⟨ho1, hi1⟩ := H4.out
  have ho1' := own_fr ho1 hf5 fun _ _ e => e
  obtain ⟨x1, hx1⟩ : ∃ x, its1[1]? = some x := ⟨_, List.getElem?_eq_getElem (by rw [hi1.1]; exact Nat.lt_succ_self 1)⟩
  obtain ⟨y0, hy0⟩ : ∃ y, its2[0]? = some y := ⟨_, List.getElem?_eq_getElem (by rw [hi2.1]; exact Nat.zero_lt_one)⟩
  have e1 := (hi1.2 1 x1 _ hx1 rfl).index
  have e2 := (hi2.2 0 y0 _ hy0 rfl).index
  have e3 := (hi2.2 0 y0 _ hy0 rfl).kind
  obtain ⟨ga, rfl⟩ := own_zero ho1' (Nat.zero_lt_succ _)
  obtain ⟨gb, rfl⟩ := own_zero ho2 (Nat.zero_lt_succ _)
  obtain ⟨b1, o1, q1, k1⟩ := (Rd.of_ownW ho1').item hx1
  obtain ⟨b2, o2, q2, k2⟩ := (Rd.of_ownW ho2).item hy0
  injection q1 with q1
  injection q1 with q1 q1'
  subst q1 q1'
  injection q2 with q2
  injection q2 with q2 q2'
  subst q2 q2'
  have c1a : w5.cell? ⟨ga, 13, none⟩ = some (.int .i64 x1.index) := k1 1 _ rfl
  have c2a : w5.cell? ⟨gb, 1, none⟩ = some (.int .i64 y0.index) := k2 1 _ rfl
  have c2b : w5.cell? ⟨gb, 0, none⟩ = some (.int .i64 y0.kind) := k2 0 _ rfl
  rw [e1] at c1a
  rw [e2] at c2a
  rw [e3] at c2b
  dsimp only at c1a c2a c2b
  dsimp only [List.length_cons, List.length_nil]
  clear ho1 ho1' hi1 ho2 hi2 hf5 hx1 hy0 e1 e2 e3 k1 k2 H4
  go_wp2_with fail
  go_ret
  exact ⟨rfl, HF5.out⟩
end Go.Proofs.Ytdgjjkmgdjiliaa
