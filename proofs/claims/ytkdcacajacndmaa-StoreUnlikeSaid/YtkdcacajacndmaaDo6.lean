/- do: a call on both stores. Conditions: at most 99999 rows; keys and values of at most 500 bytes. -/
import Derived.Test.YtkdcacajacndmaaRfA
import Derived.Test.YtkdcacajacndmaaSRange
import Derived.Test.YtkdcacajacndmaaSmA
import Derived.Test.YtkdcacajacndmaaGr6
import Derived.IntWalk
namespace Go.Proofs.Ytkdcacajacndmaa
open Go.RowKit
theorem low_bits (k : Int) (m : Nat) (hm : m ≤ 65535) : ∃ q : Nat, bits .and .i64 k (m : Int) = (q : Int) ∧ q ≤ m := by
  have e : (BitVec.ofInt 64 (m : Int)).toNat = m := by rw [BitVec.ofInt_natCast, BitVec.toNat_ofNat]; omega
  have hq : (BitVec.ofInt 64 k &&& BitVec.ofInt 64 (m : Int)).toNat ≤ m := by
    rw [BitVec.toNat_and]
    have := Nat.and_le_right (n := (BitVec.ofInt 64 k).toNat) (m := (BitVec.ofInt 64 (m : Int)).toNat)
    omega
  refine ⟨(BitVec.ofInt 64 k &&& BitVec.ofInt 64 (m : Int)).toNat, ?_, hq⟩
  show IntKind.i64.wrap (((BitVec.ofInt 64 k &&& BitVec.ofInt 64 (m : Int)).toNat : Nat) : Int) = _
  generalize (BitVec.ofInt 64 k &&& BitVec.ofInt 64 (m : Int)).toNat = q at *
  exact IntWalk.i64_in _ (by omega)
def DoPost (W : World) (g gm n k : Nat) (e : Ending) (w' : World) : Prop := e = .returned (.bool true) ∧ ∃ rs, Pair W w' g gm n rs ∧ Lim (k + 1) rs
set_option maxRecDepth 100000 in
set_option maxHeartbeats 16000000 in
theorem do_ex [Ex] (W w : World) (g gm n k : Nat) (rs : List Rw) (O OM : Nat → Prop) (h : PairS W w g gm n rs rs O OM) (hl : Lim k rs) (hk : k ≤ 99999) (x : Opn) (hx : Part W x.data) (hs : x.data.2.2.length ≤ 500 ∧ x.name.length ≤ 500) :
    Calls Try.prog 14 #[.pointer (some ⟨g, 0, none⟩), .pointer (some ⟨gm, 0, none⟩), .agg (opa x)] w (DoPost W g gm n k) := by
  obtain ⟨i1, hi1, hy0, hy1, hy2⟩ := info_parts byteInfo
  obtain ⟨kind, no, name, ⟨va, vc, vb⟩⟩ := x
  obtain ⟨q, hqe, hq7⟩ := low_bits kind 7 (by decide)
  have HQ : Hid (bits .and .i64 kind 7 = (q : Int)) := hqe
  obtain ⟨p, hp⟩ : ∃ p, p = w.heap.size := ⟨_, rfl⟩
  obtain ⟨L, hL⟩ : ∃ L, L = vb.length := ⟨_, rfl⟩
  obtain ⟨w1, hw1⟩ : ∃ w1, w1 = w.alloc (.cells #[.int .i64 kind, .int .i64 no, .string (bstr name), .slice va L vc] 33) := ⟨_, rfl⟩
  have hf1 : Fr NoBlk w w1 := by rw [hw1]; exact (Fr.refl _ _).alloc _
  have HB1 : Hid (Bk w1 p 33 #[.int .i64 kind, .int .i64 no, .string (bstr name), .slice va L vc]) := by show Bk _ _ _ _; rw [hw1, hp]; exact Bk.new _ _ _
  have HP1 : Hid (PairS W w1 g gm n rs rs O OM) := h.nofr hf1
  have HPO : Hid (¬ O p) := fun e => by have := h.st.lt e; omega
  have HPM : Hid (p ≠ gm) := fun e => by have := (h.rst.lt h.rst.self).2; omega
  have HPW : Hid (W.heap.size ≤ w1.heap.size) := HP1.out.fr.size
  have HDT : Hid (Rd w1 va (cb vb) ∧ (va = none → vc = 0) ∧ L = vb.length ∧ L ≤ 500) := ⟨hx.1.nofr (h.fr.trans hf1), hx.2, hL, by rw [hL]; exact hs.1⟩
  have HVW : Hid (∀ w', Fr NoBlk W w' → Rd w' va (cb vb)) := fun w' hf => hx.1.nofr hf
  have HKN : Hid (name.length ≤ 1000000000) := by have h1 : name.length ≤ 500 := hs.2; show _ ≤ _; omega
  have HK5 : Hid (name.length ≤ 500) := hs.2
  have HLM := Lib.hid hl
  have HLEN : Hid (rs.length ≤ 99999) := by have := hl.1; show _ ≤ _; omega
  have HLEN2 : Hid (rs.length ≤ 100000) := by have := hl.1; show _ ≤ _; omega
  have HW1 := Lib.hid hw1
  have HPP := Lib.hid hp
  have HLL := Lib.hid hL
  unfold opa st sl
  dsimp only
  rw [← hL]
  unfold DoPost
  clear h hl hk hx hs hqe hq7 hp hw1 hf1 hL
  go_enter Try.func14, Try.ntmps14
  go_upto_region 1 with fail
  rw [← HW1.out, ← HPP.out]
  clear HW1 HPP
  have c0 : w1.cell? ⟨p, 0, none⟩ = some (.int .i64 kind) := HB1.out.cell 0
  have c1 : w1.cell? ⟨p, 1, none⟩ = some (.int .i64 no) := HB1.out.cell 1
  have c2 : w1.cell? ⟨p, 2, none⟩ = some (.string (bstr name)) := HB1.out.cell 2
  have c3 : w1.cell? ⟨p, 3, none⟩ = some (.slice va L vc) := HB1.out.cell 3
  by_cases hq : q = 0
  · have h0 : (bits .and .i64 kind 7 == 0) = true := by rw [HQ.out, hq]; rfl
    clear hq
    go_wp2_with fail
    refine (sdel_any w1 g O n rs HP1.out.st HLEN.out name HKN.out).mono ?_
    rintro e w2 ⟨⟨x2, rfl⟩, O', hs2, hp2⟩
    have HB2 : Hid (Bk w2 p 33 #[.int .i64 kind, .int .i64 no, .string (bstr name), .slice va L vc]) := Bk.fr HB1.out hp2.fr (fun e => HPO.out e)
    have HP2 : Hid (PairS W w2 g gm n (rset rs name ⟨false, [], (rget n rs name).home, (rget n rs name).count⟩) rs O' OM) := HP1.out.stp hs2 hp2
    clear hs2 hp2 c2 HP1 HB1 HPO
    have d2 : w2.cell? ⟨p, 2, none⟩ = some (.string (bstr name)) := HB2.out.cell 2
    go_wp2_with fail
    refine (rdel_any w2 W.heap.size gm OM n rs HP2.out.rst HLEN.out name HKN.out).mono ?_
    rintro e w3 ⟨⟨x3, rfl⟩, OM', hs3, hf3, hn3⟩
    have HP3 : Hid (PairS W w3 g gm n _ _ O' OM') := HP2.out.rstp hs3 hf3 (fun b hb => (hn3 b hb).imp (fun e => by rw [e]; exact HP2.out.rst.self) id)
    clear hs3 hf3 hn3 d2 HP2 HB2
    go_wp2_with fail
    go_ret
    exact ⟨rfl, _, ⟨_, _, _, HP3.out⟩, HLM.out.put HK5.out ⟨Nat.zero_le _, Nat.le_succ_of_le (HLM.out.get _ _).2⟩⟩
  by_cases hq1 : q = 1
  · have hq := hq1
    have h0 : (bits .and .i64 kind 7 == 0) = false := by rw [HQ.out, hq]; rfl
    have h1 : (bits .and .i64 kind 7 == 1) = true := by rw [HQ.out, hq]; rfl
    clear hq1
    have HSO : Hid (∀ w' : World, Bk w' p 33 #[.int .i64 kind, .int .i64 no, .string (bstr name), .slice va L vc] → w'.cell? ⟨p, 1, none⟩ = some (.int .i64 no) ∧ w'.cell? ⟨p, 2, none⟩ = some (.string (bstr name))) := fun w' h => ⟨h.cell 1, h.cell 2⟩
    clear c2 c1
    go_upto_region 15 with fail
    refine wp_region_held_drew (S := fun w' => Bk w' p 33 #[.int .i64 kind, .int .i64 no, .string (bstr name), .slice va L vc]) (by kernel_rfl) (by exact HB1.out.fr (Fr.refl NoBlk _).drew (fun h => h)) (fun hHeld => ?_)
    obtain ⟨w6, hw6⟩ : ∃ w6, w6 = w1.drew := ⟨_, rfl⟩
    have HP6 : Hid (PairS W w6 g gm n rs rs O OM) := by show PairS _ _ _ _ _ _ _ _ _; rw [hw6]; exact HP1.out.nofr (Fr.refl NoBlk _).drew
    rw [← hw6] at hHeld ⊢
    clear hw6 HP1 HB1
    refine wpAnyH_take (i := 0) (oi := ⟨some 51, _, _, _, _, _⟩) (v := ?_) rfl (by kernel_rfl) (by kernel_rfl) (by kernel_rfl) (fun _ _ _ h => h) (Or.inl ⟨by rfl, ?_⟩) (by assumption) ?_
    rotate_left 1
    · (intro w hSw; (try dsimp only at hSw); obtain ⟨y1, y2⟩ := HSO.out _ hSw; go_simp) <;> (with_reducible rfl)
    try simp only [Act.put, List.setIfInBounds_toArray, List.set_cons_zero, List.set_cons_succ]
    refine wpAnyH_take (i := 1) (oi := ⟨some 52, _, _, _, _, _⟩) (v := ?_) rfl (by kernel_rfl) (by kernel_rfl) (by kernel_rfl) (fun _ _ _ h => h) (Or.inl ⟨by rfl, ?_⟩) (by assumption) ?_
    rotate_left 1
    · (intro w hSw; (try dsimp only at hSw); obtain ⟨y1, y2⟩ := HSO.out _ hSw; go_simp) <;> (with_reducible rfl)
    try simp only [Act.put, List.setIfInBounds_toArray, List.set_cons_zero, List.set_cons_succ]
    refine wpAnyH_take (i := 2) (oi := ⟨some 53, _, _, _, _, _⟩) (v := ?_) rfl (by kernel_rfl) (by kernel_rfl) (by kernel_rfl) (fun _ _ _ h => h) (Or.inl ⟨by rfl, ?_⟩) (by assumption) ?_
    rotate_left 1
    · (intro w hSw; (try dsimp only at hSw); obtain ⟨y1, y2⟩ := HSO.out _ hSw; go_simp) <;> (with_reducible rfl)
    try simp only [Act.put, List.setIfInBounds_toArray, List.set_cons_zero, List.set_cons_succ]
    refine wpAnyH_take (i := 3) (oi := ⟨some 54, _, _, _, _, _⟩) (v := ?_) rfl (by kernel_rfl) (by kernel_rfl) (by kernel_rfl) (fun _ _ _ h => h) (Or.inl ⟨by rfl, ?_⟩) (by assumption) ?_
    rotate_left 1
    · (intro w hSw; (try dsimp only at hSw); obtain ⟨y1, y2⟩ := HSO.out _ hSw; go_simp) <;> (with_reducible rfl)
    try simp only [Act.put, List.setIfInBounds_toArray, List.set_cons_zero, List.set_cons_succ]
    refine wpAnyH_take (i := 4) (oi := ⟨some 55, _, _, _, _, _⟩) (v := ?_) rfl (by kernel_rfl) (by kernel_rfl) (by kernel_rfl) (fun _ _ _ h => h) (Or.inl ⟨by rfl, ?_⟩) (by assumption) ?_
    rotate_left 1
    · (intro w hSw; (try dsimp only at hSw); obtain ⟨y1, y2⟩ := HSO.out _ hSw; go_simp) <;> (with_reducible rfl)
    try simp only [Act.put, List.setIfInBounds_toArray, List.set_cons_zero, List.set_cons_succ]
    refine wpAnyH_take (i := 6) (oi := ⟨some 57, _, _, _, _, _⟩) (v := ?_) rfl (by kernel_rfl) (by kernel_rfl) (by kernel_rfl) (fun _ _ _ h => h) (Or.inl ⟨by rfl, ?_⟩) (by assumption) ?_
    rotate_left 1
    · (intro w hSw; (try dsimp only at hSw); obtain ⟨y1, y2⟩ := HSO.out _ hSw; go_simp) <;> (with_reducible rfl)
    try simp only [Act.put, List.setIfInBounds_toArray, List.set_cons_zero, List.set_cons_succ]
    refine wpAnyH_take (i := 7) (oi := ⟨some 58, _, _, _, _, _⟩) (v := ?_) rfl (by kernel_rfl) (by kernel_rfl) (by kernel_rfl) (fun _ _ _ h => h) (Or.inl ⟨by rfl, ?_⟩) (by assumption) ?_
    rotate_left 1
    · (intro w hSw; (try dsimp only at hSw); obtain ⟨y1, y2⟩ := HSO.out _ hSw; go_simp) <;> (with_reducible rfl)
    try simp only [Act.put, List.setIfInBounds_toArray, List.set_cons_zero, List.set_cons_succ]
    refine wpAnyH_take (i := 8) (oi := ⟨some 59, _, _, _, _, _⟩) (v := ?_) rfl (by kernel_rfl) (by kernel_rfl) (by kernel_rfl) (fun _ _ _ h => h) (Or.inl ⟨by rfl, ?_⟩) (by assumption) ?_
    rotate_left 1
    · (intro w hSw; (try dsimp only at hSw); obtain ⟨y1, y2⟩ := HSO.out _ hSw; go_simp) <;> (with_reducible rfl)
    try simp only [Act.put, List.setIfInBounds_toArray, List.set_cons_zero, List.set_cons_succ]
    refine wpAnyH_take (i := 9) (oi := ⟨some 60, _, _, _, _, _⟩) (v := ?_) rfl (by kernel_rfl) (by kernel_rfl) (by kernel_rfl) (fun _ _ _ h => h) (Or.inl ⟨by rfl, ?_⟩) (by assumption) ?_
    rotate_left 1
    · (intro w hSw; (try dsimp only at hSw); obtain ⟨y1, y2⟩ := HSO.out _ hSw; go_simp) <;> (with_reducible rfl)
    try simp only [Act.put, List.setIfInBounds_toArray, List.set_cons_zero, List.set_cons_succ]
    refine wpAnyH_take (i := 10) (oi := ⟨some 61, _, _, _, _, _⟩) (v := ?_) rfl (by kernel_rfl) (by kernel_rfl) (by kernel_rfl) (fun _ _ _ h => h) (Or.inl ⟨by rfl, ?_⟩) (by assumption) ?_
    rotate_left 1
    · (intro w hSw; (try dsimp only at hSw); obtain ⟨y1, y2⟩ := HSO.out _ hSw; go_simp) <;> (with_reducible rfl)
    try simp only [Act.put, List.setIfInBounds_toArray, List.set_cons_zero, List.set_cons_succ]
    refine wpAnyH_ready (rs := [5]) (by kernel_rfl) (by simp) ?_
    refine AllReadyH.cons (o := ⟨some 56, _, _, _, _, _⟩) rfl (fun K hK => ?_) AllReadyH.nil
    have hSw := hHeld
    go_simp
    go_at_call 29
    refine (smove_any w6 g O n rs HP6.out.st HLEN.out name HKN.out no).mono ?_
    rintro e w7 ⟨rfl, O', hs7, hp7⟩
    have hB7 : Bk w7 p 33 #[.int .i64 kind, .int .i64 no, .string (bstr name), .slice va L vc] := Bk.fr hSw hp7.fr (fun e => HPO.out e)
    have HP7 : Hid (PairS W w7 g gm n (moveR n rs name no) rs O' OM) := HP6.out.stp hs7 hp7
    clear hs7 hp7 HP6
    refine hK.out _ _ ?_ (fun hHeld => ?_)
    · exact hB7
    clear hK K
    try simp only [Act.put, List.setIfInBounds_toArray, List.set_cons_zero, List.set_cons_succ]
    refine wpAnyH_ready (rs := [11]) (by kernel_rfl) (by simp) ?_
    refine AllReadyH.cons (o := ⟨some 62, _, _, _, _, _⟩) rfl (fun K hK => ?_) AllReadyH.nil
    have hSw := hHeld
    go_simp
    go_at_call 34
    refine (rmove_any w7 W.heap.size gm OM n rs HP7.out.rst HLEN.out name HKN.out no).mono ?_
    rintro e w8 ⟨rfl, OM', hs8, hf8, hn8⟩
    have hB8 : Bk w8 p 33 #[.int .i64 kind, .int .i64 no, .string (bstr name), .slice va L vc] := Bk.fr hSw hf8 (fun e => HPM.out e)
    have HP8 : Hid (PairS W w8 g gm n (moveR n rs name no) (moveR n rs name no) O' OM') := HP7.out.rstp hs8 hf8 hn8
    clear hs8 hf8 hn8 HP7
    refine hK.out _ _ ?_ (fun hHeld => ?_)
    · exact hB8
    clear hK K
    try simp only [Act.put, List.setIfInBounds_toArray, List.set_cons_zero, List.set_cons_succ]
    refine wpAnyH_take (i := 12) (oi := ⟨some 63, _, _, _, _, _⟩) (v := ?_) rfl (by kernel_rfl) (by kernel_rfl) (by kernel_rfl) (fun _ _ _ h => h) (Or.inl ⟨by rfl, ?_⟩) (by assumption) ?_
    rotate_left 1
    · (intro w hSw; (try dsimp only at hSw); obtain ⟨y1, y2⟩ := HSO.out _ hSw; go_simp) <;> (with_reducible rfl)
    try simp only [Act.put, List.setIfInBounds_toArray, List.set_cons_zero, List.set_cons_succ]
    refine wpAnyH_take (i := 13) (oi := ⟨some 6, _, _, _, _, _⟩) (v := ?_) rfl (by kernel_rfl) (by kernel_rfl) (by kernel_rfl) (fun _ _ _ h => h) (Or.inl ⟨by rfl, ?_⟩) (by assumption) ?_
    rotate_left 1
    · (intro w hSw; (try dsimp only at hSw); obtain ⟨y1, y2⟩ := HSO.out _ hSw; go_simp) <;> (with_reducible rfl)
    try simp only [Act.put, List.setIfInBounds_toArray, List.set_cons_zero, List.set_cons_succ]
    refine wpAnyH_done (by kernel_rfl) ?_ _
    clear hHeld HSO
    try go_wp2_with fail
    go_ret
    exact ⟨rfl, _, ⟨_, _, _, HP8.out⟩, HLM.out.move HK5.out no⟩
  by_cases hq2 : q = 2
  · have hq := hq2
    have h0 : (bits .and .i64 kind 7 == 0) = false := by rw [HQ.out, hq]; rfl
    have h1 : (bits .and .i64 kind 7 == 1) = false := by rw [HQ.out, hq]; rfl
    have h2 : (bits .and .i64 kind 7 == 2) = true := by rw [HQ.out, hq]; rfl
    clear hq2
    have HSO : Hid (∀ w' : World, Bk w' p 33 #[.int .i64 kind, .int .i64 no, .string (bstr name), .slice va L vc] → w'.cell? ⟨p, 1, none⟩ = some (.int .i64 no) ∧ w'.cell? ⟨p, 2, none⟩ = some (.string (bstr name))) := fun w' h => ⟨h.cell 1, h.cell 2⟩
    clear c2 c1
    go_upto_region 15 with fail
    refine wp_region_held_drew (S := fun w' => Bk w' p 33 #[.int .i64 kind, .int .i64 no, .string (bstr name), .slice va L vc]) (by kernel_rfl) (by exact HB1.out.fr (Fr.refl NoBlk _).drew (fun h => h)) (fun hHeld => ?_)
    obtain ⟨w6, hw6⟩ : ∃ w6, w6 = w1.drew := ⟨_, rfl⟩
    have HP6 : Hid (PairS W w6 g gm n rs rs O OM) := by show PairS _ _ _ _ _ _ _ _ _; rw [hw6]; exact HP1.out.nofr (Fr.refl NoBlk _).drew
    rw [← hw6] at hHeld ⊢
    clear hw6 HP1 HB1
    refine wpAnyH_take (i := 0) (oi := ⟨some 51, _, _, _, _, _⟩) (v := ?_) rfl (by kernel_rfl) (by kernel_rfl) (by kernel_rfl) (fun _ _ _ h => h) (Or.inl ⟨by rfl, ?_⟩) (by assumption) ?_
    rotate_left 1
    · (intro w hSw; (try dsimp only at hSw); obtain ⟨y1, y2⟩ := HSO.out _ hSw; go_simp) <;> (with_reducible rfl)
    try simp only [Act.put, List.setIfInBounds_toArray, List.set_cons_zero, List.set_cons_succ]
    refine wpAnyH_take (i := 1) (oi := ⟨some 52, _, _, _, _, _⟩) (v := ?_) rfl (by kernel_rfl) (by kernel_rfl) (by kernel_rfl) (fun _ _ _ h => h) (Or.inl ⟨by rfl, ?_⟩) (by assumption) ?_
    rotate_left 1
    · (intro w hSw; (try dsimp only at hSw); obtain ⟨y1, y2⟩ := HSO.out _ hSw; go_simp) <;> (with_reducible rfl)
    try simp only [Act.put, List.setIfInBounds_toArray, List.set_cons_zero, List.set_cons_succ]
    refine wpAnyH_take (i := 2) (oi := ⟨some 53, _, _, _, _, _⟩) (v := ?_) rfl (by kernel_rfl) (by kernel_rfl) (by kernel_rfl) (fun _ _ _ h => h) (Or.inl ⟨by rfl, ?_⟩) (by assumption) ?_
    rotate_left 1
    · (intro w hSw; (try dsimp only at hSw); obtain ⟨y1, y2⟩ := HSO.out _ hSw; go_simp) <;> (with_reducible rfl)
    try simp only [Act.put, List.setIfInBounds_toArray, List.set_cons_zero, List.set_cons_succ]
    refine wpAnyH_take (i := 3) (oi := ⟨some 54, _, _, _, _, _⟩) (v := ?_) rfl (by kernel_rfl) (by kernel_rfl) (by kernel_rfl) (fun _ _ _ h => h) (Or.inl ⟨by rfl, ?_⟩) (by assumption) ?_
    rotate_left 1
    · (intro w hSw; (try dsimp only at hSw); obtain ⟨y1, y2⟩ := HSO.out _ hSw; go_simp) <;> (with_reducible rfl)
    try simp only [Act.put, List.setIfInBounds_toArray, List.set_cons_zero, List.set_cons_succ]
    refine wpAnyH_take (i := 4) (oi := ⟨some 55, _, _, _, _, _⟩) (v := ?_) rfl (by kernel_rfl) (by kernel_rfl) (by kernel_rfl) (fun _ _ _ h => h) (Or.inl ⟨by rfl, ?_⟩) (by assumption) ?_
    rotate_left 1
    · (intro w hSw; (try dsimp only at hSw); obtain ⟨y1, y2⟩ := HSO.out _ hSw; go_simp) <;> (with_reducible rfl)
    try simp only [Act.put, List.setIfInBounds_toArray, List.set_cons_zero, List.set_cons_succ]
    refine wpAnyH_take (i := 6) (oi := ⟨some 57, _, _, _, _, _⟩) (v := ?_) rfl (by kernel_rfl) (by kernel_rfl) (by kernel_rfl) (fun _ _ _ h => h) (Or.inl ⟨by rfl, ?_⟩) (by assumption) ?_
    rotate_left 1
    · (intro w hSw; (try dsimp only at hSw); obtain ⟨y1, y2⟩ := HSO.out _ hSw; go_simp) <;> (with_reducible rfl)
    try simp only [Act.put, List.setIfInBounds_toArray, List.set_cons_zero, List.set_cons_succ]
    refine wpAnyH_take (i := 7) (oi := ⟨some 58, _, _, _, _, _⟩) (v := ?_) rfl (by kernel_rfl) (by kernel_rfl) (by kernel_rfl) (fun _ _ _ h => h) (Or.inl ⟨by rfl, ?_⟩) (by assumption) ?_
    rotate_left 1
    · (intro w hSw; (try dsimp only at hSw); obtain ⟨y1, y2⟩ := HSO.out _ hSw; go_simp) <;> (with_reducible rfl)
    try simp only [Act.put, List.setIfInBounds_toArray, List.set_cons_zero, List.set_cons_succ]
    refine wpAnyH_take (i := 8) (oi := ⟨some 59, _, _, _, _, _⟩) (v := ?_) rfl (by kernel_rfl) (by kernel_rfl) (by kernel_rfl) (fun _ _ _ h => h) (Or.inl ⟨by rfl, ?_⟩) (by assumption) ?_
    rotate_left 1
    · (intro w hSw; (try dsimp only at hSw); obtain ⟨y1, y2⟩ := HSO.out _ hSw; go_simp) <;> (with_reducible rfl)
    try simp only [Act.put, List.setIfInBounds_toArray, List.set_cons_zero, List.set_cons_succ]
    refine wpAnyH_take (i := 9) (oi := ⟨some 60, _, _, _, _, _⟩) (v := ?_) rfl (by kernel_rfl) (by kernel_rfl) (by kernel_rfl) (fun _ _ _ h => h) (Or.inl ⟨by rfl, ?_⟩) (by assumption) ?_
    rotate_left 1
    · (intro w hSw; (try dsimp only at hSw); obtain ⟨y1, y2⟩ := HSO.out _ hSw; go_simp) <;> (with_reducible rfl)
    try simp only [Act.put, List.setIfInBounds_toArray, List.set_cons_zero, List.set_cons_succ]
    refine wpAnyH_take (i := 10) (oi := ⟨some 61, _, _, _, _, _⟩) (v := ?_) rfl (by kernel_rfl) (by kernel_rfl) (by kernel_rfl) (fun _ _ _ h => h) (Or.inl ⟨by rfl, ?_⟩) (by assumption) ?_
    rotate_left 1
    · (intro w hSw; (try dsimp only at hSw); obtain ⟨y1, y2⟩ := HSO.out _ hSw; go_simp) <;> (with_reducible rfl)
    try simp only [Act.put, List.setIfInBounds_toArray, List.set_cons_zero, List.set_cons_succ]
    refine wpAnyH_ready (rs := [5]) (by kernel_rfl) (by simp) ?_
    refine AllReadyH.cons (o := ⟨some 56, _, _, _, _, _⟩) rfl (fun K hK => ?_) AllReadyH.nil
    have hSw := hHeld
    go_simp
    go_at_call 29
    refine (smove_any w6 g O n rs HP6.out.st HLEN.out name HKN.out no).mono ?_
    rintro e w7 ⟨rfl, O', hs7, hp7⟩
    have hB7 : Bk w7 p 33 #[.int .i64 kind, .int .i64 no, .string (bstr name), .slice va L vc] := Bk.fr hSw hp7.fr (fun e => HPO.out e)
    have HP7 : Hid (PairS W w7 g gm n (moveR n rs name no) rs O' OM) := HP6.out.stp hs7 hp7
    clear hs7 hp7 HP6
    refine hK.out _ _ ?_ (fun hHeld => ?_)
    · exact hB7
    clear hK K
    try simp only [Act.put, List.setIfInBounds_toArray, List.set_cons_zero, List.set_cons_succ]
    refine wpAnyH_ready (rs := [11]) (by kernel_rfl) (by simp) ?_
    refine AllReadyH.cons (o := ⟨some 62, _, _, _, _, _⟩) rfl (fun K hK => ?_) AllReadyH.nil
    have hSw := hHeld
    go_simp
    go_at_call 34
    refine (rmove_any w7 W.heap.size gm OM n rs HP7.out.rst HLEN.out name HKN.out no).mono ?_
    rintro e w8 ⟨rfl, OM', hs8, hf8, hn8⟩
    have hB8 : Bk w8 p 33 #[.int .i64 kind, .int .i64 no, .string (bstr name), .slice va L vc] := Bk.fr hSw hf8 (fun e => HPM.out e)
    have HP8 : Hid (PairS W w8 g gm n (moveR n rs name no) (moveR n rs name no) O' OM') := HP7.out.rstp hs8 hf8 hn8
    clear hs8 hf8 hn8 HP7
    refine hK.out _ _ ?_ (fun hHeld => ?_)
    · exact hB8
    clear hK K
    try simp only [Act.put, List.setIfInBounds_toArray, List.set_cons_zero, List.set_cons_succ]
    refine wpAnyH_take (i := 12) (oi := ⟨some 63, _, _, _, _, _⟩) (v := ?_) rfl (by kernel_rfl) (by kernel_rfl) (by kernel_rfl) (fun _ _ _ h => h) (Or.inl ⟨by rfl, ?_⟩) (by assumption) ?_
    rotate_left 1
    · (intro w hSw; (try dsimp only at hSw); obtain ⟨y1, y2⟩ := HSO.out _ hSw; go_simp) <;> (with_reducible rfl)
    try simp only [Act.put, List.setIfInBounds_toArray, List.set_cons_zero, List.set_cons_succ]
    refine wpAnyH_take (i := 13) (oi := ⟨some 6, _, _, _, _, _⟩) (v := ?_) rfl (by kernel_rfl) (by kernel_rfl) (by kernel_rfl) (fun _ _ _ h => h) (Or.inl ⟨by rfl, ?_⟩) (by assumption) ?_
    rotate_left 1
    · (intro w hSw; (try dsimp only at hSw); obtain ⟨y1, y2⟩ := HSO.out _ hSw; go_simp) <;> (with_reducible rfl)
    try simp only [Act.put, List.setIfInBounds_toArray, List.set_cons_zero, List.set_cons_succ]
    refine wpAnyH_done (by kernel_rfl) ?_ _
    clear hHeld HSO
    try go_wp2_with fail
    go_ret
    exact ⟨rfl, _, ⟨_, _, _, HP8.out⟩, HLM.out.move HK5.out no⟩
  by_cases hq3 : q = 3
  · have hq := hq3
    have h0 : (bits .and .i64 kind 7 == 0) = false := by rw [HQ.out, hq]; rfl
    have h1 : (bits .and .i64 kind 7 == 1) = false := by rw [HQ.out, hq]; rfl
    have h2 : (bits .and .i64 kind 7 == 2) = false := by rw [HQ.out, hq]; rfl
    have h3 : (bits .and .i64 kind 7 == 3) = true := by rw [HQ.out, hq]; rfl
    clear hq3
    go_wp2_with fail
    refine (srange_any w1 g O n rs HP1.out.st HLEN2.out HLM.out.val name no).mono ?_
    rintro e w2 ⟨A2, e2, ys, rfl, ho2, hrow2, hf2⟩
    obtain ⟨us, hus⟩ : ∃ us, us = rrange name no rs := ⟨_, rfl⟩
    rw [← hus] at ho2 hrow2 ⊢
    have HUS := Lib.hid hus
    have hyl := hrow2.1
    rw [← hyl] at ho2 ⊢
    have HY := Lib.hid (And.intro ho2 (And.intro hrow2 hf2))
    have HB2 : Hid (Bk w2 p 33 #[.int .i64 kind, .int .i64 no, .string (bstr name), .slice va L vc]) := Bk.fr HB1.out hf2 (fun e => e)
    have HP2 : Hid (PairS W w2 g gm n rs rs O OM) := HP1.out.nofr hf2
    have HUL : Hid (ys.length ≤ 100000 ∧ us.length = ys.length ∧ ∀ z ∈ us, z.2.val.length ≤ 500) := by
      refine ⟨?_, hyl.symm, fun z hz => ?_⟩
      · have h1 : us.length ≤ rs.length := by
          rw [hus]
          exact Nat.le_trans (List.length_take_le' _ _) (List.length_filter_le _ _)
        have := HLEN2.out
        omega
      · rw [hus] at hz
        exact (HLM.out.2 z (List.mem_filter.1 (List.mem_of_mem_take hz)).1).1
    obtain ⟨m2, hm2⟩ : ∃ m, m = ys.length := ⟨_, rfl⟩
    rw [← hm2]
    have HM2 := Lib.hid hm2
    clear hus hyl ho2 hrow2 hf2 hm2 c1 c2
    have d1 : w2.cell? ⟨p, 1, none⟩ = some (.int .i64 no) := HB2.out.cell 1
    have d2 : w2.cell? ⟨p, 2, none⟩ = some (.string (bstr name)) := HB2.out.cell 2
    go_wp2_with fail
    refine (rrange_any w2 W.heap.size gm OM n rs HP2.out.rst HLEN.out name no).mono ?_
    rintro e w3 ⟨A3, e3, zs, rfl, ho3, hz3, hr3, hf3⟩
    have HSM : Hid (Calls Try.prog 19 #[.slice A2 m2 e2, .slice A3 zs.length e3] w3 fun e w' => e = .returned (.bool true) ∧ Fr NoBlk w3 w') := by
      have h := same_yes w3 A2 e2 ys A3 e3 (vz zs) us (Rd.nofr (Rd.of_ownW HY.out.1) hf3) (Rd.of_ownW ho3) ((HY.out.2.1.told (HP1.out.st.lx)).nofr hf3) (by rw [HUS.out, ← hz3]; exact told_zs hr3) (by have := HUL.out; omega)
      rw [vz_len, ← HM2.out] at h
      exact h
    have HF3 := Lib.hid hf3
    clear ho3 hz3 hr3 hf3
    go_wp2_with fail
    refine HSM.out.mono ?_
    clear HSM
    rintro e w4 ⟨rfl, hf4⟩
    have HF4 : Hid (Fr NoBlk w2 w4) := HF3.out.trans hf4
    have HSP : Hid (Calls Try.prog 22 #[.slice A2 m2 e2] w4 fun e w' => (∃ x, e = .returned x) ∧ Fr (fun b => w1.heap.size ≤ b) w4 w') := by
      rw [HM2.out]
      refine spoil_any w4 w1.heap.size A2 e2 ys (own_fr HY.out.1 HF4.out fun _ _ e => e) (RowsOf.wr (RowsOf.fr HY.out.2.1 HF4.out fun _ _ e => e)) HUL.out.1 fun y hy => ?_
      obtain ⟨j, hj, rfl⟩ := List.getElem_of_mem hy
      have h1 := HUL.out
      have h2 := (HY.out.2.1.2 j _ _ (List.getElem?_eq_getElem hj) (List.getElem?_eq_getElem (by omega))).2.len
      have h3 := h1.2.2 _ (List.getElem_mem (l := us) (n := j) (by omega))
      omega
    clear hf4
    go_wp2_with fail
    refine HSP.out.mono ?_
    clear HSP
    rintro e w5 ⟨⟨x5, rfl⟩, hf5⟩
    have HP5 : Hid (PairS W w5 g gm n rs rs O OM) := HP1.out.nofr ((HY.out.2.2.trans HF4.out).step hf5 fun i hi e => by omega)
    clear hf5
    go_wp2_with fail
    go_ret
    exact ⟨rfl, _, ⟨_, _, _, HP5.out⟩, HLM.out.up⟩
  have h0 : (bits .and .i64 kind 7 == 0) = false := by rw [HQ.out]; exact beq_eq_false_iff_ne.2 (by omega)
  have h1 : (bits .and .i64 kind 7 == 1) = false := by rw [HQ.out]; exact beq_eq_false_iff_ne.2 (by omega)
  have h2 : (bits .and .i64 kind 7 == 2) = false := by rw [HQ.out]; exact beq_eq_false_iff_ne.2 (by omega)
  have h3 : (bits .and .i64 kind 7 == 3) = false := by rw [HQ.out]; exact beq_eq_false_iff_ne.2 (by omega)
  clear hq hq1 hq2 hq3
  have HRD0 := Lib.hid HDT.out
  obtain ⟨q, hq⟩ : ∃ q, q = w1.heap.size := ⟨_, rfl⟩
  obtain ⟨w2, hw2⟩ : ∃ w2, w2 = w1.alloc (.cells #[] 5) := ⟨_, rfl⟩
  have HF2 : Hid (Fr NoBlk w1 w2) := by show Fr _ _ _; rw [hw2]; exact (Fr.refl _ _).alloc _
  have HO2 : Hid (w2.ownsRow w1.heap.size 5 1 (.slice (some ⟨q, 0, none⟩) 0 0) 0 []) := own_litW 1 (by rw [hw2, hq]; exact Bk.new _ _ _) (by rw [hq]; exact Nat.le_refl _)
  have HR2 : Hid (Rd w2 va (cb vb)) := HDT.out.1.nofr HF2.out
  have HB2 : Hid (Bk w2 p 33 #[.int .i64 kind, .int .i64 no, .string (bstr name), .slice va L vc]) := Bk.fr HB1.out HF2.out (fun e => e)
  have d3 : (w1.alloc (.cells #[] 5)).cell? ⟨p, 3, none⟩ = some (.slice va L vc) := by rw [← hw2]; exact HB2.out.cell 3
  have HLB : Hid ((cb vb).length = L * 1) := by show _ = _; rw [cb_length, Nat.mul_one]; exact HDT.out.2.2.1.symm
  clear c2 c3
  go_wp2_with (at_builtin; rw [← hw2, ← hq]; clear hw2 hq; go_loud (refine wpList_appW rfl _ _ 31 rfl w1.heap.size 5 i1 _ 1 1 Try.underlying31 hi1 hy0 hy1 hy2 rfl (by decide) (.slice (some ⟨q, 0, none⟩) 0 0) 0 [] rfl HO2.out va vc L (cb vb) rfl HLB.out HR2.out (cb_one _) HDT.out.2.1 (by unfold maxLen; have := HDT.out.2.2; omega) (by have := HDT.out.2.2; omega) HF2.out.size ?_))
  intro v3 w3 ho3 hg3 _
  try rw [List.nil_append, Nat.zero_add] at ho3
  obtain ⟨A3, c3, rfl, _, hn3⟩ := own_form ho3
  have hf3 : Fr NoBlk w1 w3 := grown_no HF2.out HO2.out hg3
  obtain ⟨ex, hex⟩ : ∃ ex : Option Nat, ex = A3.map fun a => a.block := ⟨_, rfl⟩
  have hxx : ∀ k, ex = some k → w1.heap.size ≤ k ∧ k < w3.heap.size := fun k e => by
    rw [hex] at e
    obtain ⟨a, rfl, rfl⟩ := Option.map_eq_some_iff.1 e
    exact own_in ho3 rfl
  have hch := HP1.out.change hf3
  obtain ⟨E2, hE2⟩ : ∃ E : Ex, E.x = ex := ⟨⟨ex⟩, rfl⟩
  have HP3 : Hid (PairS W w3 g gm n rs rs O OM) := hch E2 fun k e => hxx k (hE2 ▸ e)
  have HB3 : Hid (Bk w3 p 33 #[.int .i64 kind, .int .i64 no, .string (bstr name), .slice va L vc]) := Bk.fr HB1.out hf3 (fun e => e)
  have HPO3 : Hid (¬ O p) := HPO.out
  have HO3 : Hid (w3.ownsRow w1.heap.size 5 1 (.slice A3 L c3) L (cb vb) ∧ (A3 = none → c3 = 0)) := ⟨ho3, hn3⟩
  have HEX : Hid (E2.x = A3.map fun a => a.block) := hE2.trans hex
  have HRV : Hid (Rd w3 va (cb vb)) := HDT.out.1.nofr hf3
  clear hch ho3 hg3 hn3 hf3 hE2 hex hxx d3 HO2 HR2 HB2 HP1
  have c2 : w3.cell? ⟨p, 2, none⟩ = some (.string (bstr name)) := HB3.out.cell 2
  go_wp2_with fail
  refine (sput_any w3 g O n rs HP3.out.st HLEN.out name HKN.out A3 L c3 vb HDT.out.2.2.1 HO3.out.2 (Rd.of_ownW HO3.out.1) (by have := HDT.out.2.2; omega)).mono ?_
  rintro e w4 ⟨⟨x4, rfl⟩, O', hs4, hp4⟩
  have HB4 : Hid (Bk w4 p 33 #[.int .i64 kind, .int .i64 no, .string (bstr name), .slice va L vc]) := Bk.fr HB3.out hp4.fr (fun e => HPO3.out e)
  have HP4 : Hid (PairS W w4 g gm n (rset rs name ⟨true, vb, (rget n rs name).home, (rget n rs name).count⟩) rs O' OM) := HP3.out.stp hs4 hp4
  have hnb : ∀ k, Byt w3 k → ¬ O k := fun k hk hb => HP3.out.st.nb hb hk
  have HO4 : Hid (w4.ownsRow w1.heap.size 5 1 (.slice A3 L c3) L (cb vb)) := own_fr HO3.out.1 hp4.fr fun k hk => hnb k (Byt.own HO3.out.1 hk)
  have HR4 : Hid (Rd w4 va (cb vb)) := HVW.out w4 HP4.out.fr
  clear hs4 hp4 c2 HP3 HB3 HRV hnb
  have d2 : w4.cell? ⟨p, 2, none⟩ = some (.string (bstr name)) := HB4.out.cell 2
  have d3 : w4.cell? ⟨p, 3, none⟩ = some (.slice va L vc) := HB4.out.cell 3
  go_wp2_with fail
  refine (rput_any w4 W.heap.size gm OM n rs HP4.out.rst HLEN.out name HKN.out va L vc vb HDT.out.2.2.1 HDT.out.2.1 HR4.out (by have := HDT.out.2.2; omega)).mono ?_
  rintro e w5 ⟨⟨x5, rfl⟩, OM', hs5, hf5, hn5⟩
  have HP5 : Hid (PairS W w5 g gm n (rset rs name ⟨true, vb, (rget n rs name).home, (rget n rs name).count⟩) (rset rs name ⟨true, vb, (rget n rs name).home, (rget n rs name).count⟩) O' OM') := HP4.out.rstp hs5 hf5 (fun b hb => (hn5 b hb).imp (fun e => by rw [e]; exact HP4.out.rst.self) id)
  have HO5 : Hid (w5.ownsRow w1.heap.size 5 1 (.slice A3 L c3) L (cb vb)) := own_fr HO4.out hf5 fun k hk e => HP4.out.rst.nb HP4.out.rst.self (e ▸ Byt.own HO4.out hk)
  clear hs5 hf5 hn5 d2 d3 HP4 HB4 HO4 HR4
  obtain ⟨rs', hrs'⟩ : ∃ rs', rs' = rset rs name ⟨true, vb, (rget n rs name).home, (rget n rs name).count⟩ := ⟨_, rfl⟩
  rw [← hrs'] at HP5
  have HLM' : Hid (Lim (k + 1) rs') := by show Lim _ _; rw [hrs']; exact HLM.out.put HK5.out ⟨by have := HDT.out.2.2; show vb.length ≤ 500; omega, Nat.le_succ_of_le (HLM.out.get _ _).2⟩
  have HL5 : Hid (L ≤ 500) := HDT.out.2.2.2
  clear hrs'
  go_wp2_with fail
  go_loopw [31] (fun i wr => ∃ j : Nat, i = .int .i64 (j : Int) ∧ j ≤ L ∧ Hid (PairS W wr g gm n rs' rs' O' OM' ∧ (0 < L → ∃ gx cs, A3 = some ⟨gx, 0, none⟩ ∧ W.heap.size ≤ gx ∧ Bk wr gx 5 cs ∧ L ≤ cs.size))) (fun i _ => L - (intOf i).toNat)
  case atStart =>
    refine ⟨0, rfl, Nat.zero_le _, HP5.out, fun h0 => ?_⟩
    have hW1 := HPW.out
    rcases HO5.out.2 with ⟨hv, hx⟩ | ⟨gx, cap, cur, hv, hb, hh, hnc, hcm, hcs, htake⟩
    · injection hv with _ h2 _
      omega
    · injection hv with h1 h2 h3
      exact ⟨gx, cur, h1, by omega, hh, by omega⟩
  case round =>
    obtain ⟨j, rfl, hj, HI⟩ := hrel
    by_cases hlt : j < L
    · obtain ⟨gx, cs, hA, hgW, hbx, hcs⟩ := HI.out.2 (by omega)
      subst hA
      have hj' : (j : Int) < (L : Int) := by omega
      have hj0 : (0 : Int) ≤ (j : Int) := by omega
      have hw3 : IntKind.i64.wrap ((j : Int) + 1) = ((j + 1 : Nat) : Int) := by have := HL5.out; rw [IntWalk.i64_in _ (by omega)]; omega
      obtain ⟨u8, hu8⟩ : ∃ u, cs[j]? = some u := ⟨_, Array.getElem?_eq_getElem (by omega)⟩
      have e2 : wr.cell? ⟨gx, j, none⟩ = some u8 := by rw [hbx.cell]; exact hu8
      have ef := hbx.free j
      have HI2 : Hid (PairS W (wr.setCell ⟨gx, j, none⟩ (.int .u8 238)) g gm n rs' rs' O' OM' ∧ (0 < L → ∃ g2 cs, some (⟨gx, 0, none⟩ : Addr) = some ⟨g2, 0, none⟩ ∧ W.heap.size ≤ g2 ∧ Bk (wr.setCell ⟨gx, j, none⟩ (.int .u8 238)) g2 5 cs ∧ L ≤ cs.size)) := by
        exact ⟨HI.out.1.spoil HEX.out ((Fr.refl (fun b => b = gx) wr).setCell (p := ⟨gx, j, none⟩) (fun _ => rfl) _) hgW ⟨_, _, hbx⟩, fun _ => ⟨gx, _, rfl, hgW, hbx.put j _, by rw [Array.size_setIfInBounds]; exact hcs⟩⟩
      clear hgW hbx hcs hu8 HI
      go_wp2_with fail
      go_roundw
      case rel => exact ⟨j + 1, by go_num, by omega, HI2⟩
      case measure => simp [intOf]; omega
    · have HPE := Lib.hid HI.out.1
      have hj' : ¬ (j : Int) < (L : Int) := by omega
      clear HI
      go_wp2_with fail
      go_ret
      exact ⟨rfl, rs', ⟨_, _, _, HPE.out⟩, HLM'.out⟩
theorem do_any (W w : World) (g gm n k : Nat) (rs : List Rw) (h : Pair W w g gm n rs) (hl : Lim k rs) (hk : k ≤ 99999) (x : Opn) (hx : Part W x.data) (hs : x.data.2.2.length ≤ 500 ∧ x.name.length ≤ 500) :
    Calls Try.prog 14 #[.pointer (some ⟨g, 0, none⟩), .pointer (some ⟨gm, 0, none⟩), .agg (opa x)] w (DoPost W g gm n k) := by
  obtain ⟨O, OM, o, h⟩ := h
  exact @do_ex ⟨o⟩ W w g gm n k rs O OM h hl hk x hx hs
end Go.Proofs.Ytkdcacajacndmaa
