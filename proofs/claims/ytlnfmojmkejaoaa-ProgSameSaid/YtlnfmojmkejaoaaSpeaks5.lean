/- The document's example holds. No condition. -/
import Derived.Test.YtlnfmojmkejaoaaCheck
namespace Go.Proofs.Ytlnfmojmkejaoaa
open Go.RowKit

def exA (h : Nat) : Tx := ⟨1, some ⟨h, 0, none⟩, 1, [[97]], some ⟨h + 1, 0, none⟩, 1, [[98]], some ⟨h + 2, 0, none⟩, 2, [⟨6, [98], (none, 0, []), 5⟩, ⟨1, [97], (none, 0, []), 0⟩], 0⟩
def exB (h : Nat) : Tx := ⟨1, some ⟨h, 0, none⟩, 1, [[97]], some ⟨h + 1, 0, none⟩, 1, [[98]], some ⟨h + 2, 0, none⟩, 2, [⟨2, [97], (none, 0, []), 0⟩, ⟨1, [97], (none, 0, []), 0⟩], 0⟩
theorem exA_right (h : Nat) : codeR (rightR (exA h) 1) = 0 := by
  rw [show rightR (exA h) 1 = true from by simp [rightR, keysR, kindR, exA, riseB, inB, noKey, opR, rOp]]
  rfl
theorem exB_wrong (h : Nat) : codeR (rightR (exB h) 1) = 1 := by
  rw [show rightR (exB h) 1 = false from by simp [rightR, keysR, kindR, exB, riseB, inB, noKey, opR, rOp]]
  rfl
theorem ex_in {w : World} {h : Nat} {t1 t2 t3 : TypeId} {t : Tx} (hA : t = exA h ∨ t = exB h) (h1 : Bk w h t1 (sts [[97]]).toArray) (h2 : Bk w (h + 1) t2 (sts [[98]]).toArray) (h3 : Bk w (h + 2) t3 (opsc t.ops).toArray) : TxIn w t := by
  have r1 := Rd.of_cells h1
  have r2 := Rd.of_cells h2
  have r3 := Rd.of_cells h3
  rcases hA with rfl | rfl
  all_goals
    refine ⟨r1, r2, r3, fun x hx => ?_, ⟨fun k hk => ?_, fun k hk => ?_⟩, ⟨Nat.le_refl _, ?_, fun h => by cases h⟩, ⟨Nat.le_refl _, ?_, fun h => by cases h⟩, ⟨Nat.le_refl _, ?_, fun h => by cases h⟩⟩
    · simp only [exA, exB, List.mem_cons, List.not_mem_nil, or_false] at hx
      rcases hx with rfl | rfl <;> exact ⟨⟨Rd.none_ _ _, fun _ => rfl⟩, Nat.le_refl _, by show 0 ≤ _; exact Nat.zero_le _, by unfold maxLen; simp⟩
    · simp only [exA, exB, List.mem_cons, List.not_mem_nil, or_false] at hk
      subst hk; unfold maxLen; simp
    · simp only [exA, exB, List.mem_cons, List.not_mem_nil, or_false] at hk
      subst hk; unfold maxLen; simp
    · show 1 ≤ maxLen; unfold maxLen; omega
    · show 1 ≤ maxLen; unfold maxLen; omega
    · show 2 ≤ maxLen; unfold maxLen; omega

theorem four (w : World) (t1 t2 t3 t4 : TypeId) (a b c d : Array Value) :
    Bk ((((w.alloc (.cells a t1)).alloc (.cells b t2)).alloc (.cells c t3)).alloc (.cells d t4)) w.heap.size t1 a ∧
    Bk ((((w.alloc (.cells a t1)).alloc (.cells b t2)).alloc (.cells c t3)).alloc (.cells d t4)) (w.heap.size + 1) t2 b ∧
    Bk ((((w.alloc (.cells a t1)).alloc (.cells b t2)).alloc (.cells c t3)).alloc (.cells d t4)) (w.heap.size + 1 + 1) t3 c ∧
    Bk ((((w.alloc (.cells a t1)).alloc (.cells b t2)).alloc (.cells c t3)).alloc (.cells d t4)) (w.heap.size + 1 + 1 + 1) t4 d := by
  have e1 : (w.alloc (.cells a t1)).heap.size = w.heap.size + 1 := by simp
  have e2 : ((w.alloc (.cells a t1)).alloc (.cells b t2)).heap.size = w.heap.size + 1 + 1 := by simp
  have e3 : (((w.alloc (.cells a t1)).alloc (.cells b t2)).alloc (.cells c t3)).heap.size = w.heap.size + 1 + 1 + 1 := by simp
  have h1 := Bk.new w t1 a
  have h2 := Bk.new (w.alloc (.cells a t1)) t2 b
  have h3 := Bk.new ((w.alloc (.cells a t1)).alloc (.cells b t2)) t3 c
  have h4 := Bk.new (((w.alloc (.cells a t1)).alloc (.cells b t2)).alloc (.cells c t3)) t4 d
  rw [e1] at h2
  rw [e2] at h3
  rw [e3] at h4
  exact ⟨((h1.alloc _).alloc _).alloc _, (h2.alloc _).alloc _, h3.alloc _, h4⟩

set_option maxRecDepth 100000 in
set_option maxHeartbeats 1000000 in
theorem speaks_any (w : World) : Calls Try.prog 10 #[] w fun e w' => e = .returned (.bool true) ∧ Fr NoBlk w w' := by
  obtain ⟨b1, b2, b3, b4⟩ := four w 9 9 39 26 (sts [[97]]).toArray (sts [[98]]).toArray (opsc (exA w.heap.size).ops).toArray (txa (exA w.heap.size))
  have HF0 : Hid (Fr NoBlk w ((((w.alloc (.cells (sts [[97]]).toArray 9)).alloc (.cells (sts [[98]]).toArray 9)).alloc (.cells (opsc (exA w.heap.size).ops).toArray 39)).alloc (.cells (txa (exA w.heap.size)) 26))) := ((((Fr.refl _ _).alloc _).alloc _).alloc _).alloc _
  have hC := check_any _ (exA w.heap.size) 1 (ex_in (.inl rfl) b1 b2 b3) (by show 1 ≤ 1000; omega) (by show 1 ≤ 1000; omega)
  rw [exA_right] at hC
  have HC := Lib.hid hC
  have B1 := Lib.hid b1
  have B2 := Lib.hid b2
  have B3 := Lib.hid b3
  have B4 := Lib.hid b4
  clear hC b1 b2 b3 b4
  go_enter Try.func10, Try.ntmps10
  go_wp2_with fail
  refine HC.out.mono ?_
  rintro e w1 ⟨rfl, hf⟩
  have HF1 := Lib.hid (HF0.out.trans hf)
  have D1 := Lib.hid (B1.out.fr hf (fun h => h))
  have D2 := Lib.hid (B2.out.fr hf (fun h => h))
  have D3 := Lib.hid (B3.out.fr hf (fun h => h))
  have D4 := Lib.hid (B4.out.fr hf (fun h => h))
  clear hf HC HF0 B1 B2 B3 B4
  have c0 : w1.cell? ⟨w.heap.size + 1 + 1 + 1, 0, none⟩ = some (.int .i64 1) := D4.out.cell 0
  have c1 : w1.cell? ⟨w.heap.size + 1 + 1 + 1, 1, none⟩ = some (.slice (some ⟨w.heap.size, 0, none⟩) 1 1) := D4.out.cell 1
  have c2 : w1.cell? ⟨w.heap.size + 1 + 1 + 1, 2, none⟩ = some (.slice (some ⟨w.heap.size + 1, 0, none⟩) 1 1) := D4.out.cell 2
  have c3 : w1.cell? ⟨w.heap.size + 1 + 1 + 1, 3, none⟩ = some (.slice (some ⟨w.heap.size + 1 + 1, 0, none⟩) 2 2) := D4.out.cell 3
  have c4 : w1.cell? ⟨w.heap.size + 1 + 1 + 1, 4, none⟩ = some (.int .i64 0) := D4.out.cell 4
  have o0 : w1.cell? ⟨w.heap.size + 1 + 1, 0, none⟩ = some (.int .i64 6) := D3.out.cell 0
  have o1 : w1.cell? ⟨w.heap.size + 1 + 1, 1, none⟩ = some (.string ⟨#[98]⟩) := D3.out.cell 1
  have o2 : w1.cell? ⟨w.heap.size + 1 + 1, 2, none⟩ = some (.slice none 0 0) := D3.out.cell 2
  have o3 : w1.cell? ⟨w.heap.size + 1 + 1, 3, none⟩ = some (.int .i64 5) := D3.out.cell 3
  have f0 := D3.out.free 0
  have f1 := D3.out.free 1
  have f2 := D3.out.free 2
  have f3 := D3.out.free 3
  have ho : (w.heap.size : Nat) ≠ w.heap.size + 1 + 1 := by omega
  have E3 := (((D3.out.put 0 (.int .i64 2)).put 1 (.string ⟨#[97]⟩)).put 2 (.slice none 0 0)).put 3 (.int .i64 0)
  have E1 := (((D1.out.far (p := ⟨w.heap.size + 1 + 1, 0, none⟩) ho (.int .i64 2)).far (p := ⟨w.heap.size + 1 + 1, 1, none⟩) ho (.string ⟨#[97]⟩)).far (p := ⟨w.heap.size + 1 + 1, 2, none⟩) ho (.slice none 0 0)).far (p := ⟨w.heap.size + 1 + 1, 3, none⟩) ho (.int .i64 0)
  have ho : (w.heap.size + 1 : Nat) ≠ w.heap.size + 1 + 1 := by omega
  have E2 := (((D2.out.far (p := ⟨w.heap.size + 1 + 1, 0, none⟩) ho (.int .i64 2)).far (p := ⟨w.heap.size + 1 + 1, 1, none⟩) ho (.string ⟨#[97]⟩)).far (p := ⟨w.heap.size + 1 + 1, 2, none⟩) ho (.slice none 0 0)).far (p := ⟨w.heap.size + 1 + 1, 3, none⟩) ho (.int .i64 0)
  have HF2 := Lib.hid ((((HF1.out.setCell (p := ⟨w.heap.size + 1 + 1, 0, none⟩) (fun h => absurd h (by show ¬ w.heap.size + 1 + 1 < w.heap.size; omega)) (.int .i64 2)).setCell (p := ⟨w.heap.size + 1 + 1, 1, none⟩) (fun h => absurd h (by show ¬ w.heap.size + 1 + 1 < w.heap.size; omega)) (.string ⟨#[97]⟩)).setCell (p := ⟨w.heap.size + 1 + 1, 2, none⟩) (fun h => absurd h (by show ¬ w.heap.size + 1 + 1 < w.heap.size; omega)) (.slice none 0 0)).setCell (p := ⟨w.heap.size + 1 + 1, 3, none⟩) (fun h => absurd h (by show ¬ w.heap.size + 1 + 1 < w.heap.size; omega)) (.int .i64 0))
  have hC2 := check_any _ (exB w.heap.size) 1 (ex_in (.inr rfl) E1 E2 E3) (by show 1 ≤ 1000; omega) (by show 1 ≤ 1000; omega)
  rw [exB_wrong] at hC2
  have HC2 := Lib.hid hC2
  clear hC2 E1 E2 E3 D1 D2 D3 ho
  go_wp2_with fail
  refine HC2.out.mono ?_
  rintro e w2 ⟨rfl, hf2⟩
  have HF3 := Lib.hid (HF2.out.trans hf2)
  clear hf2 HC2
  go_wp2_with fail
  go_ret
  exact ⟨rfl, HF3.out⟩
end Go.Proofs.Ytlnfmojmkejaoaa
