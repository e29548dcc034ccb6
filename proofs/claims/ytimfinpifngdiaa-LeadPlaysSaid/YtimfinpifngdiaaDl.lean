/- The document's leader: count and Leads. No condition. -/
import Derived.Test.YtimfinpifngdiaaLeWS
import Derived.Deep.Light
import Derived.Deep.RegionHeld3
namespace Go.Proofs.Ytimfinpifngdiaa
open Go.RowKit Go.Maps

def cntN (p : Int → Bool) : Nat → Nat
  | 0 => 0
  | k + 1 => cntN p k + (p k).toNat
def cnt (p : Int → Bool) : Nat := cntN p 9
theorem cntN_le (p : Int → Bool) (k : Nat) : cntN p k ≤ k := by
  induction k with
  | zero => exact Nat.le_refl _
  | succ k ih =>
    show cntN p k + (p k).toNat ≤ k + 1
    have : (p k).toNat ≤ 1 := by cases p k <;> decide
    omega
theorem cnt_le (p : Int → Bool) : cnt p ≤ 9 := cntN_le p 9
theorem cntN_add {p : Int → Bool} {x : Int} (h0 : 0 ≤ x) (hp : p x = false) (k : Nat) : cntN (fun y => decide (y = x) || p y) k = cntN p k + if x < (k : Int) then 1 else 0 := by
  induction k with
  | zero => rw [if_neg (by omega)]; rfl
  | succ k ih =>
    show cntN (fun y => decide (y = x) || p y) k + (decide ((k : Int) = x) || p k).toNat = cntN p k + (p k).toNat + _
    rw [ih]
    by_cases e : (k : Int) = x
    · subst e
      rw [if_neg (by omega), if_pos (by omega), hp, decide_eq_true rfl]
      rfl
    · rw [decide_eq_false e, Bool.false_or]
      by_cases h : x < (k : Int)
      · rw [if_pos h, if_pos (by omega)]; omega
      · rw [if_neg h, if_neg (by omega)]; omega
theorem cnt_add {p : Int → Bool} {x : Int} (h0 : 0 ≤ x) (h9 : x < 9) (hp : p x = false) : cnt (fun y => decide (y = x) || p y) = cnt p + 1 := by
  unfold cnt
  rw [cntN_add h0 hp 9, if_pos (by exact h9)]
theorem cnt_none : cnt (fun _ => false) = 0 := rfl
/-- the row of nine bools. -/
def bvs (p : Int → Bool) : Array Value := #[.bool (p 0), .bool (p 1), .bool (p 2), .bool (p 3), .bool (p 4), .bool (p 5), .bool (p 6), .bool (p 7), .bool (p 8)]
theorem bvs_get (p : Int → Bool) : ∀ (k : Nat), k < 9 → (bvs p)[k]? = some (.bool (p k))
  | 0, _ => rfl | 1, _ => rfl | 2, _ => rfl | 3, _ => rfl | 4, _ => rfl | 5, _ => rfl | 6, _ => rfl | 7, _ => rfl | 8, _ => rfl

set_option maxRecDepth 100000 in
set_option maxHeartbeats 1000000 in
theorem count_any (w : World) (p : Int → Bool) : Calls Try.prog 40 #[.agg (bvs p)] w fun e w' => e = .returned (.int .i64 (cnt p)) ∧ Fr NoBlk w w' := by
  obtain ⟨w1, hw1⟩ : ∃ w1, w1 = w.alloc (.cells (bvs p) 46) := ⟨_, rfl⟩
  obtain ⟨g, hg⟩ : ∃ g, g = w.heap.size := ⟨_, rfl⟩
  have HB : Hid (Bk w1 g 46 (bvs p)) := by show Bk _ _ _ _; rw [hw1, hg]; exact Bk.new _ _ _
  have HF : Hid (Fr NoBlk w w1) := by show Fr _ _ _; rw [hw1]; exact (Fr.refl _ _).alloc _
  obtain ⟨B, hB⟩ : ∃ B, B = bvs p := ⟨_, rfl⟩
  rw [← hB] at hw1 ⊢
  have HBB := Lib.hid hB
  clear hB
  go_enter Try.func40, Try.ntmps40
  go_wp2_with fail
  rw [← hw1, ← hg]
  clear hw1 hg
  go_loopw [3, 4] (fun n i wr => ∃ k : Nat, k ≤ 9 ∧ i = .int .i64 k ∧ n = .int .i64 (cntN p k) ∧ wr = w1) (fun _ i _ => 9 - (intOf i).toNat)
  case atStart => exact ⟨0, Nat.zero_le _, rfl, rfl, rfl⟩
  case round =>
    obtain ⟨k, hk, rfl, rfl, rfl⟩ := hrel
    by_cases h1 : (k : Int) < 9
    · have hk2 : k < 9 := by omega
      have c0 : wr.cell? ⟨g, k, none⟩ = some (.bool (p k)) := (HB.out.cell k).trans (bvs_get p k hk2)
      have hwr : IntKind.i64.wrap ((k : Int) + 1) = (k : Int) + 1 := IntWalk.i64_in _ (by omega)
      obtain ⟨n, hn⟩ : ∃ n, n = cntN p k := ⟨_, rfl⟩
      have hn9 : n ≤ 9 := by rw [hn]; have := cntN_le p k; omega
      have hwn : IntKind.i64.wrap ((n : Int) + 1) = (n : Int) + 1 := IntWalk.i64_in _ (by omega)
      have HN : Hid (cntN p (k + 1) = n + (p k).toNat) := by rw [hn]; rfl
      rw [← hn]
      clear hn
      obtain ⟨o, ho⟩ : ∃ o, o = p k := ⟨_, rfl⟩
      rw [← ho] at c0 HN
      clear ho
      cases o with
      | true =>
        have HN2 : Hid ((n : Int) + 1 = ((cntN p (k + 1) : Nat) : Int)) := by show _ = _; rw [HN.out]; rfl
        clear HN
        go_wp2_with fail
        go_roundw
        case rel => exact ⟨k + 1, by omega, by go_num, by rw [HN2.out], by trivial⟩
        case measure => simp [intOf]; omega
      | false =>
        have HN2 : Hid ((n : Int) = ((cntN p (k + 1) : Nat) : Int)) := by show _ = _; rw [HN.out]; rfl
        clear HN
        go_wp2_with fail
        go_roundw
        case rel => exact ⟨k + 1, by omega, by go_num, by rw [HN2.out], by trivial⟩
        case measure => simp [intOf]; omega
    · obtain rfl : k = 9 := by omega
      clear hk h1
      go_wp2_with fail
      go_ret
      exact ⟨rfl, HF.out⟩

/-- the document's leader. -/
structure Rdr where
  voters : Nat
  slot : Nat
  pr : Int → Bool
  told : List VtS
  off : ByteArray
  has : Bool
  tk : Int → Bool
def rdc (R : Rdr) (A : Option Addr) (n c : Nat) : Array Value := #[.int .i64 (R.voters : Int), .int .i64 (R.slot : Int), .bool (R.pr 0), .bool (R.pr 1), .bool (R.pr 2), .bool (R.pr 3), .bool (R.pr 4), .bool (R.pr 5), .bool (R.pr 6), .bool (R.pr 7), .bool (R.pr 8), .slice A n c, .string R.off, .bool R.has, .bool (R.tk 0), .bool (R.tk 1), .bool (R.tk 2), .bool (R.tk 3), .bool (R.tk 4), .bool (R.tk 5), .bool (R.tk 6), .bool (R.tk 7), .bool (R.tk 8)]
def rleads (R : Rdr) : Bool := decide (R.voters < 2 * cnt R.pr)

set_option maxRecDepth 100000 in
set_option maxHeartbeats 1000000 in
theorem rleads_any (w : World) (g : Nat) (R : Rdr) (A : Option Addr) (n c : Nat) (_ : R.voters ≤ 9) (h : Bk w g 48 (rdc R A n c)) :
    Calls Try.prog 22 #[.pointer (some ⟨g, 0, none⟩)] w fun e w' => e = .returned (.bool (rleads R)) ∧ Fr NoBlk w w' := by
  obtain ⟨p, hp⟩ : ∃ p, p = R.pr := ⟨_, rfl⟩
  have HB := Lib.hid h
  have HC := Lib.hid fun W => count_any W p
  have HL : Hid (rleads R = decide ((R.voters : Int) < 2 * (cnt p : Int))) := by
    show decide (R.voters < 2 * cnt R.pr) = decide ((R.voters : Int) < 2 * (cnt p : Int))
    rw [hp]
    exact decide_eq_decide.2 (by omega)
  have hc9 : cnt p ≤ 9 := cnt_le p
  have hwm : IntKind.i64.wrap (2 * (cnt p : Int)) = 2 * (cnt p : Int) := IntWalk.i64_in _ (by omega)
  unfold rdc at HB
  rw [← hp] at HB
  clear hp h
  unfold bvs at HC
  have sOf : Hid (∀ W, Bk W g 48 _ → _) := Lib.hid fun W (h : Bk W g 48 #[.int .i64 (R.voters : Int), .int .i64 (R.slot : Int), .bool (p 0), .bool (p 1), .bool (p 2), .bool (p 3), .bool (p 4), .bool (p 5), .bool (p 6), .bool (p 7), .bool (p 8), .slice A n c, .string R.off, .bool R.has, .bool (R.tk 0), .bool (R.tk 1), .bool (R.tk 2), .bool (R.tk 3), .bool (R.tk 4), .bool (R.tk 5), .bool (R.tk 6), .bool (R.tk 7), .bool (R.tk 8)]) => And.intro (h.cell 0) (And.intro (h.cell 2) (And.intro (h.cell 3) (And.intro (h.cell 4) (And.intro (h.cell 5) (And.intro (h.cell 6) (And.intro (h.cell 7) (And.intro (h.cell 8) (And.intro (h.cell 9) (h.cell 10)))))))))
  generalize cnt p = q at *
  go_enter Try.func22, Try.ntmps22
  go_wp2_with fail
  refine wp_region_held_drew (S := fun w' => w'.cell? ⟨g, 0, none⟩ = some (.int .i64 (R.voters : Int)) ∧ w'.cell? ⟨g, 2, none⟩ = some (.bool (p 0)) ∧ w'.cell? ⟨g, 3, none⟩ = some (.bool (p 1)) ∧ w'.cell? ⟨g, 4, none⟩ = some (.bool (p 2)) ∧ w'.cell? ⟨g, 5, none⟩ = some (.bool (p 3)) ∧ w'.cell? ⟨g, 6, none⟩ = some (.bool (p 4)) ∧ w'.cell? ⟨g, 7, none⟩ = some (.bool (p 5)) ∧ w'.cell? ⟨g, 8, none⟩ = some (.bool (p 6)) ∧ w'.cell? ⟨g, 9, none⟩ = some (.bool (p 7)) ∧ w'.cell? ⟨g, 10, none⟩ = some (.bool (p 8))) (by kernel_rfl) (sOf.out _ (HB.out.fr (Fr.refl NoBlk _).drew fun h => h)) (fun hHeld => ?_)
  refine wpAnyH_take (i := 0) (oi := ⟨some 3, _, _, _, _, _⟩) (v := ?_) rfl (by kernel_rfl) (by kernel_rfl) (by kernel_rfl) (fun _ _ _ h => h) (Or.inl ⟨by rfl, ?_⟩) (by assumption) ?_
  rotate_left 1
  · (intro w hSw; (try dsimp only at hSw); obtain ⟨hSv, hS0, hS1, hS2, hS3, hS4, hS5, hS6, hS7, hS8⟩ := hSw; go_simp) <;> (with_reducible rfl)
  try simp only [Act.put, List.setIfInBounds_toArray, List.set_cons_zero, List.set_cons_succ]
  refine wpAnyH_take (i := 1) (oi := ⟨some 4, _, _, _, _, _⟩) (v := ?_) rfl (by kernel_rfl) (by kernel_rfl) (by kernel_rfl) (fun _ _ _ h => h) (Or.inl ⟨by rfl, ?_⟩) (by assumption) ?_
  rotate_left 1
  · (intro w hSw; (try dsimp only at hSw); obtain ⟨hSv, hS0, hS1, hS2, hS3, hS4, hS5, hS6, hS7, hS8⟩ := hSw; go_simp) <;> (with_reducible rfl)
  try simp only [Act.put, List.setIfInBounds_toArray, List.set_cons_zero, List.set_cons_succ]
  refine wpAnyH_take (i := 2) (oi := ⟨some 5, _, _, _, _, _⟩) (v := ?_) rfl (by kernel_rfl) (by kernel_rfl) (by kernel_rfl) (fun _ _ _ h => h) (Or.inl ⟨by rfl, ?_⟩) (by assumption) ?_
  rotate_left 1
  · (intro w hSw; (try dsimp only at hSw); obtain ⟨hSv, hS0, hS1, hS2, hS3, hS4, hS5, hS6, hS7, hS8⟩ := hSw; go_simp) <;> (with_reducible rfl)
  try simp only [Act.put, List.setIfInBounds_toArray, List.set_cons_zero, List.set_cons_succ]
  refine wpAnyH_take (i := 3) (oi := ⟨some 6, _, _, _, _, _⟩) (v := ?_) rfl (by kernel_rfl) (by kernel_rfl) (by kernel_rfl) (fun _ _ _ h => h) (Or.inl ⟨by rfl, ?_⟩) (by assumption) ?_
  rotate_left 1
  · (intro w hSw; (try dsimp only at hSw); obtain ⟨hSv, hS0, hS1, hS2, hS3, hS4, hS5, hS6, hS7, hS8⟩ := hSw; go_simp) <;> (with_reducible rfl)
  try simp only [Act.put, List.setIfInBounds_toArray, List.set_cons_zero, List.set_cons_succ]
  refine wpAnyH_take (i := 6) (oi := ⟨some 9, _, _, _, _, _⟩) (v := ?_) rfl (by kernel_rfl) (by kernel_rfl) (by kernel_rfl) (fun _ _ _ h => h) (Or.inl ⟨by rfl, ?_⟩) (by assumption) ?_
  rotate_left 1
  · (intro w hSw; (try dsimp only at hSw); obtain ⟨hSv, hS0, hS1, hS2, hS3, hS4, hS5, hS6, hS7, hS8⟩ := hSw; go_simp) <;> (with_reducible rfl)
  try simp only [Act.put, List.setIfInBounds_toArray, List.set_cons_zero, List.set_cons_succ]
  refine wpAnyH_take (i := 7) (oi := ⟨some 10, _, _, _, _, _⟩) (v := ?_) rfl (by kernel_rfl) (by kernel_rfl) (by kernel_rfl) (fun _ _ _ h => h) (Or.inl ⟨by rfl, ?_⟩) (by assumption) ?_
  rotate_left 1
  · (intro w hSw; (try dsimp only at hSw); obtain ⟨hSv, hS0, hS1, hS2, hS3, hS4, hS5, hS6, hS7, hS8⟩ := hSw; go_simp) <;> (with_reducible rfl)
  try simp only [Act.put, List.setIfInBounds_toArray, List.set_cons_zero, List.set_cons_succ]
  refine wpAnyH_take (i := 8) (oi := ⟨some 11, _, _, _, _, _⟩) (v := ?_) rfl (by kernel_rfl) (by kernel_rfl) (by kernel_rfl) (fun _ _ _ h => h) (Or.inl ⟨by rfl, ?_⟩) (by assumption) ?_
  rotate_left 1
  · (intro w hSw; (try dsimp only at hSw); obtain ⟨hSv, hS0, hS1, hS2, hS3, hS4, hS5, hS6, hS7, hS8⟩ := hSw; go_simp) <;> (with_reducible rfl)
  try simp only [Act.put, List.setIfInBounds_toArray, List.set_cons_zero, List.set_cons_succ]
  refine wpAnyH_take (i := 9) (oi := ⟨some 12, _, _, _, _, _⟩) (v := ?_) rfl (by kernel_rfl) (by kernel_rfl) (by kernel_rfl) (fun _ _ _ h => h) (Or.inl ⟨by rfl, ?_⟩) (by assumption) ?_
  rotate_left 1
  · (intro w hSw; (try dsimp only at hSw); obtain ⟨hSv, hS0, hS1, hS2, hS3, hS4, hS5, hS6, hS7, hS8⟩ := hSw; go_simp) <;> (with_reducible rfl)
  try simp only [Act.put, List.setIfInBounds_toArray, List.set_cons_zero, List.set_cons_succ]
  refine wpAnyH_ready (rs := [4]) (by kernel_rfl) (by simp) ?_
  refine AllReadyH.cons (o := ⟨some 7, _, _, _, _, _⟩) rfl (fun K hK => ?_) AllReadyH.nil
  go_simp
  go_at_call 40
  refine (HC.out _).mono ?_
  rintro e w2 ⟨rfl, hf2⟩
  have HF2 := Lib.hid ((Fr.refl NoBlk _).drew.trans hf2)
  clear hf2 hHeld
  refine hK.out _ _ ?_ (fun hHeld => ?_)
  · exact sOf.out _ (HB.out.fr HF2.out fun h => h)
  clear hK K
  try simp only [Act.put, List.setIfInBounds_toArray, List.set_cons_zero, List.set_cons_succ]
  refine wpAnyH_take (i := 5) (oi := ⟨some 8, _, _, _, _, _⟩) (v := ?_) rfl (by kernel_rfl) (by kernel_rfl) (by kernel_rfl) (fun _ _ _ h => h) (Or.inl ⟨by rfl, ?_⟩) (by assumption) ?_
  rotate_left 1
  · (intro w hSw; (try dsimp only at hSw); obtain ⟨hSv, hS0, hS1, hS2, hS3, hS4, hS5, hS6, hS7, hS8⟩ := hSw; go_simp) <;> (with_reducible rfl)
  try simp only [Act.put, List.setIfInBounds_toArray, List.set_cons_zero, List.set_cons_succ]
  refine wpAnyH_take (i := 10) (oi := ⟨some 13, _, _, _, _, _⟩) (v := ?_) rfl (by kernel_rfl) (by kernel_rfl) (by kernel_rfl) (fun _ _ _ h => h) (Or.inl ⟨by rfl, ?_⟩) (by assumption) ?_
  rotate_left 1
  · (intro w hSw; (try dsimp only at hSw); obtain ⟨hSv, hS0, hS1, hS2, hS3, hS4, hS5, hS6, hS7, hS8⟩ := hSw; go_simp) <;> (with_reducible rfl)
  try simp only [Act.put, List.setIfInBounds_toArray, List.set_cons_zero, List.set_cons_succ]
  refine wpAnyH_take (i := 11) (oi := ⟨some 2, _, _, _, _, _⟩) (v := ?_) rfl (by kernel_rfl) (by kernel_rfl) (by kernel_rfl) (fun _ _ _ h => h) (Or.inl ⟨by rfl, ?_⟩) (by assumption) ?_
  rotate_left 1
  · (intro w hSw; (try dsimp only at hSw); obtain ⟨hSv, hS0, hS1, hS2, hS3, hS4, hS5, hS6, hS7, hS8⟩ := hSw; go_simp) <;> (with_reducible rfl)
  try simp only [Act.put, List.setIfInBounds_toArray, List.set_cons_zero, List.set_cons_succ]
  refine wpAnyH_done (by kernel_rfl) ?_ _
  clear hHeld
  go_wp2_with fail
  go_ret
  exact ⟨by rw [HL.out]; rfl, HF2.out⟩
end Go.Proofs.Ytimfinpifngdiaa
