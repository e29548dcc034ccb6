/- The document's Chosen: Learn, Get, Len, From. Conditions: places are numbers of type int. -/
import Derived.Test.YtpldfdeikcaenaaFromS
import Derived.Deep.AppendLies
namespace Go.Proofs.Ytpldfdeikcaenaa
open Go.RowKit Go.Maps

def refCells (m : Int → Option ByteArray) : Array Value := ((List.range 64).map (fun i : Nat => Value.bool (m i).isSome) ++ (List.range 64).map (fun i : Nat => Value.string ((m i).getD ByteArray.empty))).toArray
theorem refCells_known (m : Int → Option ByteArray) {k : Nat} (hk : k < 64) : (refCells m)[k]? = some (.bool (m k).isSome) := by
  unfold refCells
  rw [List.getElem?_toArray, List.getElem?_append_left (by simpa using hk), List.getElem?_map, List.getElem?_range hk]
  rfl
theorem refCells_value (m : Int → Option ByteArray) {k : Nat} (hk : k < 64) : (refCells m)[64 + k]? = some (.string ((m k).getD ByteArray.empty)) := by
  unfold refCells
  rw [List.getElem?_toArray, List.getElem?_append_right (by simp), List.length_map, List.length_range, Nat.add_sub_cancel_left, List.getElem?_map, List.getElem?_range hk]
  rfl
theorem refCells_size (m : Int → Option ByteArray) : (refCells m).size = 128 := by simp [refCells]
theorem refCells_put (m : Int → Option ByteArray) {k : Nat} (hk : k < 64) (v : ByteArray) : ((refCells m).setIfInBounds k (.bool true)).setIfInBounds (64 + k) (.string v) = refCells (updK m k (some v)) := by
  apply Array.ext_getElem?
  intro i
  rw [Array.getElem?_setIfInBounds, Array.getElem?_setIfInBounds, Array.size_setIfInBounds, refCells_size]
  rcases Nat.lt_or_ge i 64 with hi | hi
  · rw [refCells_known _ hi, if_neg (by omega), refCells_known _ hi]
    by_cases e : k = i
    · subst e
      rw [if_pos rfl, if_pos (by omega), updK_same]
      rfl
    · rw [if_neg e, updK_other _ _ (by omega)]
  · rcases Nat.lt_or_ge i 128 with h2 | h2
    · obtain ⟨j, rfl⟩ : ∃ j, i = 64 + j := ⟨i - 64, by omega⟩
      rw [refCells_value _ (by omega : j < 64), refCells_value _ (by omega : j < 64), if_neg (by omega : ¬ k = 64 + j)]
      by_cases e : k = j
      · subst e
        rw [if_pos rfl, if_pos (by omega), updK_same]
        rfl
      · rw [if_neg (by omega), updK_other _ _ (by omega)]
    · rw [if_neg (by omega), if_neg (by omega), Array.getElem?_eq_none (by rw [refCells_size]; omega), Array.getElem?_eq_none (by rw [refCells_size]; omega)]
/-- block g is the document's Chosen of m. -/
def RefC (w : World) (g : Nat) (m : Int → Option ByteArray) : Prop := Bk w g 30 (refCells m)

set_option maxRecDepth 100000 in
set_option maxHeartbeats 1000000 in
theorem rlearn_any (w : World) (g : Nat) (m : Int → Option ByteArray) (h : RefC w g m) (x : Int) (v : ByteArray) :
    Calls Try.prog 10 #[.pointer (some ⟨g, 0, none⟩), .int .i64 x, .string v] w fun e w' => e = .returned (.bool (freeB m x)) ∧ RefC w' g (learnM m x v) ∧ Fr (fun j => j = g) w w' := by
  have HFD : Hid (freeB m x = ((m x).isNone && decide (0 ≤ x) && decide (x < 64))) := rfl
  have HS0 : Hid (freeB m x = false → learnM m x v = m) := fun hfr => by unfold learnM; rw [if_neg (by rw [hfr]; decide)]
  have HS1 : Hid (freeB m x = true → learnM m x v = updK m x (some v)) := fun hfr => by unfold learnM; rw [if_pos hfr]
  generalize learnM m x v = m' at *
  generalize freeB m x = fb at *
  have HH := Lib.hid h
  by_cases h0 : x < 0
  · obtain rfl : fb = false := by rw [HFD.out, decide_eq_false (show ¬ 0 ≤ x by omega)]; simp
    have HSX : Hid (m' = m) := HS0.out rfl
    clear h
    go_enter Try.func10, Try.ntmps10
    go_wp2_with fail
    go_ret
    exact ⟨rfl, by rw [HSX.out]; exact HH.out, Fr.refl _ _⟩
  · obtain ⟨k, rfl⟩ : ∃ k : Nat, x = k := ⟨x.toNat, by omega⟩
    by_cases h1 : 63 < (k : Int)
    · obtain rfl : fb = false := by rw [HFD.out, decide_eq_false (show ¬ (k : Int) < 64 by omega)]; simp
      have HSX : Hid (m' = m) := HS0.out rfl
      clear h
      go_enter Try.func10, Try.ntmps10
      go_wp2_with fail
      go_ret
      exact ⟨rfl, by rw [HSX.out]; exact HH.out, Fr.refl _ _⟩
    · have hk : k < 64 := by omega
      have hk0 : (0 : Int) ≤ (k : Int) := by omega
      have hk1 : (k : Int) < 64 := by omega
      have c0 : w.cell? ⟨g, k, none⟩ = some (.bool (m k).isSome) := (h.cell k).trans (refCells_known m hk)
      have c1 : w.cell? ⟨g, 64 + k, none⟩ = some (.string ((m k).getD ByteArray.empty)) := (h.cell _).trans (refCells_value m hk)
      have f0 := h.free k
      have f1 := h.free (64 + k)
      have HP : Hid (RefC ((w.setCell ⟨g, k, none⟩ (.bool true)).setCell ⟨g, 64 + k, none⟩ (.string v)) g (updK m k (some v))) := by
        show Bk _ _ _ _
        rw [← refCells_put m hk v]
        exact (h.put k _).put (64 + k) _
      have HF : Hid (Fr (fun j => j = g) w ((w.setCell ⟨g, k, none⟩ (.bool true)).setCell ⟨g, 64 + k, none⟩ (.string v))) := ((Fr.refl (fun j => j = g) _).setCell (p := ⟨g, k, none⟩) (fun _ => rfl) _).setCell (p := ⟨g, 64 + k, none⟩) (fun _ => rfl) _
      obtain ⟨o, ho⟩ : ∃ o, o = m k := ⟨_, rfl⟩
      rw [← ho] at c0 c1 HFD
      clear ho h
      cases o with
      | some u =>
        obtain rfl : fb = false := HFD.out
        have HSX : Hid (m' = m) := HS0.out rfl
        simp only [Option.isSome_some] at c0
        go_enter Try.func10, Try.ntmps10
        go_wp2_with fail
        go_ret
        exact ⟨rfl, by rw [HSX.out]; exact HH.out, Fr.refl _ _⟩
      | none =>
        obtain rfl : fb = true := by rw [HFD.out, decide_eq_true (show (0 : Int) ≤ (k : Int) by omega), decide_eq_true hk1]; rfl
        have HSX : Hid (m' = updK m k (some v)) := HS1.out rfl
        simp only [Option.isSome_none] at c0
        go_enter Try.func10, Try.ntmps10
        go_wp2_with fail
        go_ret
        exact ⟨rfl, by rw [HSX.out]; exact HP.out, HF.out⟩

set_option maxRecDepth 100000 in
set_option maxHeartbeats 1000000 in
theorem rget_any (w : World) (g : Nat) (m : Int → Option ByteArray) (hd : Dom m) (h : RefC w g m) (x : Int) :
    Calls Try.prog 14 #[.pointer (some ⟨g, 0, none⟩), .int .i64 x] w fun e w' => e = .returned (.tuple #[((m x).map evS).getD (Value.string { data := #[] }), .bool (m x).isSome]) ∧ w = w' := by
  have HN : Hid (¬ (0 ≤ x ∧ x < 64) → m x = none) := fun hn => by
    rcases hm : m x with _ | v
    · rfl
    · exact absurd (hd x (by rw [hm]; exact fun e => by cases e)) hn
  by_cases h0 : x < 0
  · rw [HN.out (by omega)]
    clear h
    go_enter Try.func14, Try.ntmps14
    go_wp2_with fail
    go_ret2
    exact ⟨rfl, rfl⟩
  · obtain ⟨k, rfl⟩ : ∃ k : Nat, x = k := ⟨x.toNat, by omega⟩
    by_cases h1 : 63 < (k : Int)
    · rw [HN.out (by omega)]
      clear h
      go_enter Try.func14, Try.ntmps14
      go_wp2_with fail
      go_ret2
      exact ⟨rfl, rfl⟩
    · have hk : k < 64 := by omega
      have hk0 : (0 : Int) ≤ (k : Int) := by omega
      have hk1 : (k : Int) < 64 := by omega
      have c0 : w.cell? ⟨g, k, none⟩ = some (.bool (m k).isSome) := (h.cell k).trans (refCells_known m hk)
      have c1 : w.cell? ⟨g, 64 + k, none⟩ = some (.string ((m k).getD ByteArray.empty)) := (h.cell _).trans (refCells_value m hk)
      obtain ⟨o, ho⟩ : ∃ o, o = m k := ⟨_, rfl⟩
      rw [← ho] at c0 c1 ⊢
      clear ho h
      cases o with
      | some u =>
        simp only [Option.isSome_some, Option.getD_some] at c0 c1
        go_enter Try.func14, Try.ntmps14
        go_wp2_with fail
        go_ret2
        exact ⟨rfl, rfl⟩
      | none =>
        simp only [Option.isSome_none] at c0
        go_enter Try.func14, Try.ntmps14
        go_wp2_with fail
        go_ret2
        exact ⟨rfl, rfl⟩
end Go.Proofs.Ytpldfdeikcaenaa
