/- Look, the program's and the document's, and the document's example of layer 10. No condition. -/
import Derived.Test.YtoddfcgblckndaaMem
import Derived.Test.YtoddfcgblckndaaChecked
import Derived.BigQuiet
import Derived.Deep.QuietTactic
import Derived.RegionTactic
import Derived.Lib.SmallJoins
import Derived.Deep.Light
namespace Go.Proofs.Ytoddfcgblckndaa
open Go.RowKit

/-- how a mark stands to a record. -/
def lookR (rh : Int) (rc : Nat) (mh : Int) (mc : Nat) : Int := if rc < mc then 1 else if mc < rc ∨ mh ≠ rh then 2 else 0
theorem lookR_now {rh mh : Int} {rc mc : Nat} (h1 : mc = rc) (h2 : mh = rh) : lookR rh rc mh mc = 0 := by
  unfold lookR
  rw [if_neg (by omega), if_neg (by omega)]
theorem lookR_later {rh mh : Int} {rc mc : Nat} (h1 : rc < mc) : lookR rh rc mh mc = 1 := by
  unfold lookR
  rw [if_pos h1]
theorem lookR_gone {rh mh : Int} {rc mc : Nat} (h1 : mc ≤ rc) (h2 : mc < rc ∨ mh ≠ rh) : lookR rh rc mh mc = 2 := by
  unfold lookR
  rw [if_neg (by omega), if_pos h2]
def reca (hb : Bool) (A : Option Addr) (n c : Nat) (rh : Int) (rc : Nat) : Array Value := #[.bool hb, .slice A n c, .int .i64 rh, .int .u64 (rc : Int)]
def marka (s : ByteArray) (mh : Int) (mc : Nat) : Array Value := #[.string s, .int .i64 mh, .int .u64 (mc : Int)]

set_option maxRecDepth 100000 in
set_option maxHeartbeats 2000000 in
theorem look_any (w : World) (hb : Bool) (A : Option Addr) (n c : Nat) (rh : Int) (rc : Nat) (s : ByteArray) (mh : Int) (mc : Nat) :
    Calls Try.prog 7 #[.agg (reca hb A n c rh rc), .agg (marka s mh mc)] w fun e w' => e = .returned (.int .i64 (lookR rh rc mh mc)) ∧ Fr NoBlk w w' := by
  have HF : Hid (Fr NoBlk w ((w.alloc (.cells (reca hb A n c rh rc) 25)).alloc (.cells (marka s mh mc) 27))) := ((Fr.refl _ _).alloc _).alloc _
  have H0 := Lib.hid (lookR_now (rh := rh) (mh := mh) (rc := rc) (mc := mc))
  have H1 := Lib.hid (lookR_later (rh := rh) (mh := mh) (rc := rc) (mc := mc))
  have H2 := Lib.hid (lookR_gone (rh := rh) (mh := mh) (rc := rc) (mc := mc))
  unfold reca marka at HF
  unfold reca marka
  generalize lookR rh rc mh mc = res at *
  by_cases h1 : rc < mc
  · have HR := Lib.hid (H1.out h1)
    have g1 : ((mc : Int) == (rc : Int)) = false := beq_eq_false_iff_ne.2 (by omega)
    have g2 : (rc : Int) < (mc : Int) := by omega
    clear h1
    by_cases h2 : mh = rh
    · have g3 : ((mh : Int) == rh) = true := beq_iff_eq.2 h2
      clear h2
      go_enter Try.func7, Try.ntmps7
      go_wp2_with fail
      go_ret
      exact ⟨by rw [HR.out]; rfl, HF.out⟩
    · have g3 : ((mh : Int) == rh) = false := beq_eq_false_iff_ne.2 h2
      clear h2
      go_enter Try.func7, Try.ntmps7
      go_wp2_with fail
      go_ret
      exact ⟨by rw [HR.out]; rfl, HF.out⟩
  · have g2 : ¬ (rc : Int) < (mc : Int) := by omega
    by_cases h3 : mc = rc
    · have g1 : ((mc : Int) == (rc : Int)) = true := beq_iff_eq.2 (by omega)
      by_cases h2 : mh = rh
      · have HR := Lib.hid (H0.out h3 h2)
        have g3 : ((mh : Int) == rh) = true := beq_iff_eq.2 h2
        clear h2 h1 h3
        go_enter Try.func7, Try.ntmps7
        go_wp2_with fail
        go_ret
        exact ⟨by rw [HR.out]; rfl, HF.out⟩
      · have HR := Lib.hid (H2.out (by omega) (.inr h2))
        have g3 : ((mh : Int) == rh) = false := beq_eq_false_iff_ne.2 h2
        clear h2 h1 h3
        go_enter Try.func7, Try.ntmps7
        go_wp2_with fail
        go_ret
        exact ⟨by rw [HR.out]; rfl, HF.out⟩
    · have g1 : ((mc : Int) == (rc : Int)) = false := beq_eq_false_iff_ne.2 (by omega)
      have HR := Lib.hid (H2.out (by omega) (.inl (by omega)))
      by_cases h2 : mh = rh
      · have g3 : ((mh : Int) == rh) = true := beq_iff_eq.2 h2
        clear h2 h1 h3
        go_enter Try.func7, Try.ntmps7
        go_wp2_with fail
        go_ret
        exact ⟨by rw [HR.out]; rfl, HF.out⟩
      · have g3 : ((mh : Int) == rh) = false := beq_eq_false_iff_ne.2 h2
        clear h2 h1 h3
        go_enter Try.func7, Try.ntmps7
        go_wp2_with fail
        go_ret
        exact ⟨by rw [HR.out]; rfl, HF.out⟩

set_option maxRecDepth 100000 in
set_option maxHeartbeats 2000000 in
theorem dlook_any (w : World) (hb : Bool) (A : Option Addr) (n c : Nat) (rh : Int) (rc : Nat) (s : ByteArray) (mh : Int) (mc : Nat) :
    Calls Try.prog 8 #[.agg (reca hb A n c rh rc), .agg (marka s mh mc)] w fun e w' => e = .returned (.int .i64 (lookR rh rc mh mc)) ∧ Fr NoBlk w w' := by
  have HF : Hid (Fr NoBlk w ((w.alloc (.cells (reca hb A n c rh rc) 25)).alloc (.cells (marka s mh mc) 27))) := ((Fr.refl _ _).alloc _).alloc _
  have H0 := Lib.hid (lookR_now (rh := rh) (mh := mh) (rc := rc) (mc := mc))
  have H1 := Lib.hid (lookR_later (rh := rh) (mh := mh) (rc := rc) (mc := mc))
  have H2 := Lib.hid (lookR_gone (rh := rh) (mh := mh) (rc := rc) (mc := mc))
  unfold reca marka at HF
  unfold reca marka
  generalize lookR rh rc mh mc = res at *
  by_cases h1 : rc < mc
  · have HR := Lib.hid (H1.out h1)
    have g2 : (rc : Int) < (mc : Int) := by omega
    clear h1
    go_enter Try.func8, Try.ntmps8
    go_wp2_with fail
    go_ret
    exact ⟨by rw [HR.out]; rfl, HF.out⟩
  · have g2 : ¬ (rc : Int) < (mc : Int) := by omega
    by_cases h3 : mc < rc
    · have HR := Lib.hid (H2.out (by omega) (.inl h3))
      have g1 : (mc : Int) < (rc : Int) := by omega
      clear h1 h3
      go_enter Try.func8, Try.ntmps8
      go_wp2_with fail
      go_ret
      exact ⟨by rw [HR.out]; rfl, HF.out⟩
    · have g1 : ¬ (mc : Int) < (rc : Int) := by omega
      by_cases h2 : mh = rh
      · have HR := Lib.hid (H0.out (by omega) h2)
        have g3 : ((mh : Int) == rh) = true := beq_iff_eq.2 h2
        have g4 : ((mh : Int) != rh) = false := by rw [bne, g3]; rfl
        clear h1 h3 h2
        go_enter Try.func8, Try.ntmps8
        go_wp2_with fail
        go_ret
        exact ⟨by rw [HR.out]; rfl, HF.out⟩
      · have HR := Lib.hid (H2.out (by omega) (.inr h2))
        have g3 : ((mh : Int) == rh) = false := beq_eq_false_iff_ne.2 h2
        have g4 : ((mh : Int) != rh) = true := by rw [bne, g3]; rfl
        clear h1 h3 h2
        go_enter Try.func8, Try.ntmps8
        go_wp2_with fail
        go_ret
        exact ⟨by rw [HR.out]; rfl, HF.out⟩

set_option maxRecDepth 100000 in
set_option maxHeartbeats 2000000 in
theorem speaks_any (w : World) : Calls Try.prog 6 #[] w fun e w' => e = .returned (.bool true) ∧ Fr NoBlk w w' := by
  have HF : Hid (Fr NoBlk w (w.alloc (.cells (reca false none 0 0 1 2) 25))) := (Fr.refl _ _).alloc _
  have HB := Lib.hid (Bk.new w 25 (reca false none 0 0 1 2))
  have K := Lib.hid fun W mh mc => look_any W false none 0 0 1 2 ⟨#[]⟩ mh mc
  unfold reca marka at K
  unfold reca at HF HB
  have e1 : lookR 1 2 1 2 = 0 := by decide
  have e2 : lookR 1 2 0 3 = 1 := by decide
  have e3 : lookR 1 2 0 2 = 2 := by decide
  have e4 : lookR 1 2 1 1 = 2 := by decide
  go_enter Try.func6, Try.ntmps6
  go_wp2_with fail
  refine (K.out _ 1 2).mono ?_
  rintro e w1 ⟨rfl, hf1⟩
  rw [e1]
  have HF1 := Lib.hid (HF.out.trans hf1)
  have HB1 := Lib.hid (HB.out.fr hf1 (fun h => h))
  have c0 : w1.cell? ⟨w.heap.size, 0, none⟩ = some (.bool false) := HB1.out.cell 0
  have c1 : w1.cell? ⟨w.heap.size, 1, none⟩ = some (.slice none 0 0) := HB1.out.cell 1
  have c2 : w1.cell? ⟨w.heap.size, 2, none⟩ = some (.int .i64 1) := HB1.out.cell 2
  have c3 : w1.cell? ⟨w.heap.size, 3, none⟩ = some (.int .u64 2) := HB1.out.cell 3
  clear hf1
  go_wp2_with fail
  refine (K.out _ 0 3).mono ?_
  rintro e w2 ⟨rfl, hf2⟩
  rw [e2]
  have HF2 := Lib.hid (HF1.out.trans hf2)
  have HB2 := Lib.hid (HB1.out.fr hf2 (fun h => h))
  clear hf2 c0 c1 c2 c3
  have c0 : w2.cell? ⟨w.heap.size, 0, none⟩ = some (.bool false) := HB2.out.cell 0
  have c1 : w2.cell? ⟨w.heap.size, 1, none⟩ = some (.slice none 0 0) := HB2.out.cell 1
  have c2 : w2.cell? ⟨w.heap.size, 2, none⟩ = some (.int .i64 1) := HB2.out.cell 2
  have c3 : w2.cell? ⟨w.heap.size, 3, none⟩ = some (.int .u64 2) := HB2.out.cell 3
  go_wp2_with fail
  refine (K.out _ 0 2).mono ?_
  rintro e w3 ⟨rfl, hf3⟩
  rw [e3]
  have HF3 := Lib.hid (HF2.out.trans hf3)
  have HB3 := Lib.hid (HB2.out.fr hf3 (fun h => h))
  clear hf3 c0 c1 c2 c3
  have c0 : w3.cell? ⟨w.heap.size, 0, none⟩ = some (.bool false) := HB3.out.cell 0
  have c1 : w3.cell? ⟨w.heap.size, 1, none⟩ = some (.slice none 0 0) := HB3.out.cell 1
  have c2 : w3.cell? ⟨w.heap.size, 2, none⟩ = some (.int .i64 1) := HB3.out.cell 2
  have c3 : w3.cell? ⟨w.heap.size, 3, none⟩ = some (.int .u64 2) := HB3.out.cell 3
  go_wp2_with fail
  refine (K.out _ 1 1).mono ?_
  rintro e w4 ⟨rfl, hf4⟩
  rw [e4]
  have HF4 := Lib.hid (HF3.out.trans hf4)
  clear hf4 c0 c1 c2 c3
  go_wp2_with fail
  go_ret
  exact ⟨rfl, HF4.out⟩
end Go.Proofs.Ytoddfcgblckndaa
