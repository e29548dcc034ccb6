/- The program's Chosen at int: New, Learn, Get, behind, All. Conditions: fewer entries than a length can be; places are numbers of type int. -/
import Derived.Test.YtpldfdeikcaenaaChS
import Derived.Test.YtpldfdeikcaenaaChecked
import Derived.Lib.Hide
import Derived.Lib.SmallJoins
import Derived.Deep.Light
namespace Go.Proofs.Ytpldfdeikcaenaa
open Go.RowKit Go.Maps

def evI (v : Int) : Value := .int .i64 v
/-- block gc is what is known, m, of s entries, in the map's block bm; both from B on. -/
structure ChI (w : World) (B gc bm s : Nat) (m : Int → Option Int) : Prop where
  bk : Bk w gc 57 #[.map (some bm)]
  km : Km Try.prog 3 w bm s (fun x => (m x).map evI)
  dom : Dom m
  b1 : B ≤ gc
  b2 : B ≤ bm
theorem ChI.fr {C : Nat → Prop} {w w' : World} {B gc bm s : Nat} {m : Int → Option Int} (h : ChI w B gc bm s m) (hf : Fr C w w') (h1 : ¬ C gc) (h2 : ¬ C bm) : ChI w' B gc bm s m :=
  ⟨h.bk.fr hf h1, h.km.fr hf h2, h.dom, h.b1, h.b2⟩
theorem ChI.nofr {w w' : World} {B gc bm s : Nat} {m : Int → Option Int} (h : ChI w B gc bm s m) (hf : Fr NoBlk w w') : ChI w' B gc bm s m := h.fr hf (fun h => h) (fun h => h)
theorem ChI.ne {w : World} {B gc bm s : Nat} {m : Int → Option Int} (h : ChI w B gc bm s m) : gc ≠ bm := bk_km_ne h.bk h.km

set_option maxRecDepth 100000 in
theorem newI_any (w : World) : Calls Try.prog 18 #[] w fun e w' => ∃ gc bm, e = .returned (.pointer (some ⟨gc, 0, none⟩)) ∧ ChI w' w.heap.size gc bm 0 (fun _ => none) ∧ Fr NoBlk w w' := by
  have HK : Hid (ChI ((w.alloc (.map #[] 0)).alloc (.cells #[.map (some w.heap.size)] 57)) w.heap.size (w.heap.size + 1) w.heap.size 0 (fun _ => none)) := by
    refine ⟨?_, (Km.new w).fr ((Fr.refl NoBlk _).alloc _) (fun h => h), dom_none, by omega, by omega⟩
    have h := Bk.new (w.alloc (.map #[] 0)) 57 #[.map (some w.heap.size)]
    rwa [show (w.alloc (.map #[] 0)).heap.size = w.heap.size + 1 by simp] at h
  have HF : Hid (Fr NoBlk w ((w.alloc (.map #[] 0)).alloc (.cells #[.map (some w.heap.size)] 57))) := ((Fr.refl _ _).alloc _).alloc _
  have hmm := @run_makeMap Try.prog
  go_enter Try.func18, Try.ntmps18
  go_wp2_with fail
  go_ret
  exact ⟨_, _, rfl, HK.out, HF.out⟩

set_option maxRecDepth 100000 in
set_option maxHeartbeats 1000000 in
theorem learnI_any (w : World) (B gc bm s : Nat) (m : Int → Option Int) (h : ChI w B gc bm s m) (hs : s < 100000) (x : Int) (hx : wf64 x) (v : Int) :
    Calls Try.prog 20 #[.pointer (some ⟨gc, 0, none⟩), .int .i64 x, evI v] w fun e w' => e = .returned (.bool (freeB m x)) ∧ ∃ s', s' ≤ s + 1 ∧ ChI w' B gc bm s' (learnM m x v) ∧ Fr (fun j => j = bm) w w' := by
  have c0 := h.bk.cell 0
  have hlook := h.km.look Try.underlying3 Try.underlying55 (z := (Value.int .i64 0)) (by kernel_rfl) hx
  obtain ⟨w1, hput, hkm1, hf1⟩ := h.km.put Try.underlying3 Try.underlying55 (by unfold maxLen; omega) hx (evI v)
  have HNE := Lib.hid h.ne
  have HM := Lib.hid (show m x = m x from rfl)
  have HH := Lib.hid h
  have HS1 : Hid (freeB m x = true → ChI w1 B gc bm (if ((m x).map evI).isSome then s else s + 1) (learnM m x v)) := fun hfr => by
    rw [show learnM m x v = updK m x (some v) by unfold learnM; rw [if_pos hfr]]
    refine ⟨h.bk.fr hf1 HNE.out, hkm1.congr fun y _ => updK_map evI m x (some v) y, ?_, h.b1, h.b2⟩
    have := h.dom.learn x v
    rwa [show learnM m x v = updK m x (some v) by unfold learnM; rw [if_pos hfr]] at this
  have HS0 : Hid (freeB m x = false → learnM m x v = m) := fun hfr => by unfold learnM; rw [if_neg (by rw [hfr]; decide)]
  have HF1 := Lib.hid hf1
  have HFD : Hid (freeB m x = ((m x).isNone && decide (0 ≤ x) && decide (x < 64))) := rfl
  clear hkm1 hf1 h
  generalize learnM m x v = m' at *
  generalize freeB m x = fb at *
  clear HM
  obtain ⟨o, ho⟩ : ∃ o, o = m x := ⟨_, rfl⟩
  rw [← ho] at hlook HFD HS1
  clear ho
  cases o with
  | some u =>
    simp only [Option.map_some, Option.getD_some, Option.isSome_some] at hlook
    obtain rfl : fb = false := HFD.out
    have HSX : Hid (m' = m) := HS0.out rfl
    clear hput
    go_enter Try.func20, Try.ntmps20
    go_wp2_with fail
    go_ret
    exact ⟨rfl, s, by omega, by rw [HSX.out]; exact HH.out, Fr.refl _ _⟩
  | none =>
    simp only [Option.map_none, Option.getD_none, Option.isSome_none] at hlook
    by_cases h0 : x < 0
    · obtain rfl : fb = false := by rw [HFD.out, decide_eq_false (by omega)]; rfl
      have HSX : Hid (m' = m) := HS0.out rfl
      clear hput
      go_enter Try.func20, Try.ntmps20
      go_wp2_with fail
      go_ret
      exact ⟨rfl, s, by omega, by rw [HSX.out]; exact HH.out, Fr.refl _ _⟩
    · by_cases h1 : 64 ≤ x
      · obtain rfl : fb = false := by rw [HFD.out, decide_eq_true (show 0 ≤ x by omega), decide_eq_false (by omega)]; rfl
        have HSX : Hid (m' = m) := HS0.out rfl
        clear hput
        go_enter Try.func20, Try.ntmps20
        go_wp2_with fail
        go_ret
        exact ⟨rfl, s, by omega, by rw [HSX.out]; exact HH.out, Fr.refl _ _⟩
      · obtain rfl : fb = true := by rw [HFD.out, decide_eq_true (show 0 ≤ x by omega), decide_eq_true (show x < 64 by omega)]; rfl
        have hge : ¬ (64 ≤ x) := h1
        have HSX := Lib.hid (HS1.out rfl)
        go_enter Try.func20, Try.ntmps20
        go_wp2_with fail
        go_ret
        exact ⟨rfl, _, by simp, HSX.out, HF1.out⟩

set_option maxRecDepth 100000 in
theorem getI_any (w : World) (B gc bm s : Nat) (m : Int → Option Int) (h : ChI w B gc bm s m) (x : Int) (hx : wf64 x) :
    Calls Try.prog 27 #[.pointer (some ⟨gc, 0, none⟩), .int .i64 x] w fun e w' => e = .returned (.tuple #[((m x).map evI).getD (Value.int .i64 0), .bool (m x).isSome]) ∧ w = w' := by
  have c0 := h.bk.cell 0
  have hlook := h.km.look Try.underlying3 Try.underlying55 (z := (Value.int .i64 0)) (by kernel_rfl) hx
  rw [Option.isSome_map] at hlook
  generalize ((m x).map evI).getD (Value.int .i64 0) = r at *
  generalize (m x).isSome = ok at *
  clear h
  go_enter Try.func27, Try.ntmps27
  go_wp2_with fail
  go_ret2
  exact ⟨rfl, rfl⟩
end Go.Proofs.Ytpldfdeikcaenaa
