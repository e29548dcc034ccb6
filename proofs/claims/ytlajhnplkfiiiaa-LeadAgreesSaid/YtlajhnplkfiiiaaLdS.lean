/- The program's Leader at string: hear, enough, told, Value and what stands in memory. Conditions: numbers of their types; fewer entries than a length can be. -/
import Derived.Test.YtlajhnplkfiiiaaKm
import Derived.Test.YtlajhnplkfiiiaaChecked
import Derived.Lib.Hide
import Derived.Lib.SmallJoins
import Derived.Deep.Light
import Derived.BigQuiet
import Derived.Deep.QuietTactic
import Derived.RegionTactic
import Derived.Deep.RegionHeld3
import Derived.IntWalk
namespace Go.Proofs.Ytlajhnplkfiiiaa
open Go.RowKit Go.Maps

/-- the blocks that a call of Taken may turn. -/
def TkB (g bt bv : Nat) (j : Nat) : Prop := j = g ∨ j = bt ∨ j = bv
/-- a set of numbers as a map's entries. -/
def setF (pr : Int → Bool) : Int → Option Value := fun x => if pr x then some (.agg #[]) else none
def hearB (pr : Int → Bool) (vt : Nat) (x : Int) : Bool := !pr x && decide (0 ≤ x) && decide (x < vt)
def hearP (pr : Int → Bool) (vt : Nat) (x : Int) : Int → Bool := if hearB pr vt x then fun y => decide (y = x) || pr y else pr
theorem setF_hear {pr : Int → Bool} {vt : Nat} {x : Int} (h : hearB pr vt x = true) (y : Int) : setF (hearP pr vt x) y = updK (setF pr) x (some (.agg #[])) y := by
  unfold hearP
  rw [if_pos h]
  by_cases e : y = x
  · simp [setF, updK, e]
  · simp [setF, updK, e]
theorem setF_some (pr : Int → Bool) (x : Int) : (setF pr x).isSome = pr x := by
  unfold setF
  cases pr x <;> rfl
theorem setF_get (pr : Int → Bool) (x : Int) : (setF pr x).getD (.agg #[]) = .agg #[] := by
  unfold setF
  cases pr x <;> rfl

/-- a vote: place, ballot, value. -/
abbrev VtS := Int × Nat × ByteArray
def evS (v : ByteArray) : Value := .string v
def vtcS (v : VtS) : Array Value := #[.int .i64 v.1, .int .u64 (v.2.1 : Int), evS v.2.2]
def vtvS (v : VtS) : Value := .agg (vtcS v)
/-- a leader's state. -/
structure LdrS where
  voters : Nat
  slot : Nat
  leads : Bool
  pr : Int → Bool
  np : Nat
  tk : Int → Bool
  nt : Nat
  vals : Int → Option VtS
  nv : Nat
def ldcS (L : LdrS) (bp bt bv : Nat) : Array Value := #[.int .i64 (L.voters : Int), .int .i64 (L.slot : Int), .bool L.leads, .map (some bp), .map (some bt), .map (some bv)]
/-- block g is the leader L; its maps lie in blocks bp, bt, bv. -/
structure LdS (w : World) (B g bp bt bv : Nat) (L : LdrS) : Prop where
  bk : Bk w g 86 (ldcS L bp bt bv)
  kp : Km Try.prog 3 w bp L.np (setF L.pr)
  kt : Km Try.prog 3 w bt L.nt (setF L.tk)
  kv : Km Try.prog 3 w bv L.nv (fun x => (L.vals x).map vtvS)
  n1 : bp ≠ bt
  n2 : bp ≠ bv
  n3 : bt ≠ bv
  b0 : B ≤ g
  b1 : B ≤ bp
  b2 : B ≤ bt
  b3 : B ≤ bv
  vo : 1 ≤ L.voters ∧ L.voters ≤ 9
  sl : L.slot ≤ 64
  vd : ∀ x, L.vals x ≠ none → 0 ≤ x ∧ x < 64
theorem LdS.fr {C : Nat → Prop} {w w' : World} {B g bp bt bv : Nat} {L : LdrS} (h : LdS w B g bp bt bv L) (hf : Fr C w w') (h0 : ¬ C g) (h1 : ¬ C bp) (h2 : ¬ C bt) (h3 : ¬ C bv) : LdS w' B g bp bt bv L :=
  ⟨h.bk.fr hf h0, h.kp.fr hf h1, h.kt.fr hf h2, h.kv.fr hf h3, h.n1, h.n2, h.n3, h.b0, h.b1, h.b2, h.b3, h.vo, h.sl, h.vd⟩
theorem LdS.nofr {w w' : World} {B g bp bt bv : Nat} {L : LdrS} (h : LdS w B g bp bt bv L) (hf : Fr NoBlk w w') : LdS w' B g bp bt bv L :=
  h.fr hf (fun h => h) (fun h => h) (fun h => h) (fun h => h)
def zvS : Value := .agg #[.int .i64 0, .int .u64 0, (Value.string { data := #[] })]
theorem zeroVtS (w : World) : (zeroValue 63).run Try.prog w = .ok zvS w := by kernel_rfl
theorem zeroUnS (w : World) : (zeroValue 106).run Try.prog w = .ok (.agg #[]) w := by kernel_rfl

set_option maxRecDepth 100000 in
set_option maxHeartbeats 1000000 in
theorem hearS_any (w : World) (g vt : Nat) (c1 c2 c3 c4 c5 : Value) (hb : Bk w g 86 #[.int .i64 (vt : Int), c1, c2, c3, c4, c5]) (bh nh : Nat) (pr : Int → Bool) (hk : Km Try.prog 3 w bh nh (setF pr)) (hn : nh < 100000) (x : Int) (hx : wf64 x) :
    Calls Try.prog 33 #[.pointer (some ⟨g, 0, none⟩), .map (some bh), .int .i64 x] w fun e w' => e = .returned (.bool (hearB pr vt x)) ∧ Km Try.prog 3 w' bh (if hearB pr vt x then nh + 1 else nh) (setF (hearP pr vt x)) ∧ Fr (fun j => j = bh) w w' := by
  have c0 : (w.alloc (.cells #[] 106)).cell? ⟨g, 0, none⟩ = some (.int .i64 (vt : Int)) := (hb.alloc _).cell 0
  have hlook := hk.look Try.underlying3 Try.underlying72 (zeroUnS w) hx
  rw [setF_some, setF_get] at hlook
  have hk1 := hk.fr ((Fr.refl NoBlk w).alloc (.cells #[] 106)) (fun h => h)
  obtain ⟨w1, hput, hkm1, hf1⟩ := hk1.put Try.underlying3 Try.underlying72 (by unfold maxLen; omega) hx (.agg #[])
  have HS1 : Hid (hearB pr vt x = true → Km Try.prog 3 w1 bh (nh + 1) (setF (hearP pr vt x))) := fun h => by
    have hp : pr x = false := by
      unfold hearB at h
      simp only [Bool.and_eq_true, Bool.not_eq_true'] at h
      exact h.1.1
    rw [setF_some, hp] at hkm1
    exact hkm1.congr fun y _ => setF_hear h y
  have HS0 : Hid (hearB pr vt x = false → Km Try.prog 3 (w.alloc (.cells #[] 106)) bh nh (setF (hearP pr vt x))) := fun h => by
    unfold hearP
    rw [if_neg (by rw [h]; decide)]
    exact hk1
  have HF1 : Hid (Fr (fun j => j = bh) w w1) := ((Fr.refl (fun j => j = bh) w).alloc _).trans hf1
  have HF0 : Hid (Fr (fun j => j = bh) w (w.alloc (.cells #[] 106))) := (Fr.refl (fun j => j = bh) w).alloc _
  have HFD : Hid (hearB pr vt x = (!pr x && decide (0 ≤ x) && decide (x < vt))) := rfl
  clear hkm1 hf1 hk1 hk hb
  generalize hearP pr vt x = pr' at *
  generalize hearB pr vt x = fb at *
  obtain ⟨o, ho⟩ : ∃ o, o = pr x := ⟨_, rfl⟩
  rw [← ho] at hlook HFD
  clear ho
  cases o with
  | true =>
    obtain rfl : fb = false := HFD.out
    have HSX := Lib.hid (HS0.out rfl)
    clear hput
    go_enter Try.func33, Try.ntmps33
    go_wp2_with fail
    go_ret
    exact ⟨rfl, HSX.out, HF0.out⟩
  | false =>
    by_cases h0 : x < 0
    · obtain rfl : fb = false := by rw [HFD.out, decide_eq_false (show ¬ 0 ≤ x by omega)]; rfl
      have HSX := Lib.hid (HS0.out rfl)
      clear hput
      go_enter Try.func33, Try.ntmps33
      go_wp2_with fail
      go_ret
      exact ⟨rfl, HSX.out, HF0.out⟩
    · by_cases h1 : (vt : Int) ≤ x
      · obtain rfl : fb = false := by rw [HFD.out, decide_eq_false (show ¬ x < vt by omega)]; simp
        have HSX := Lib.hid (HS0.out rfl)
        clear hput
        go_enter Try.func33, Try.ntmps33
        go_wp2_with fail
        go_ret
        exact ⟨rfl, HSX.out, HF0.out⟩
      · obtain rfl : fb = true := by rw [HFD.out, decide_eq_true (show 0 ≤ x by omega), decide_eq_true (show x < vt by omega)]; rfl
        have HSX := Lib.hid (HS1.out rfl)
        go_enter Try.func33, Try.ntmps33
        go_wp2_with fail
        go_ret
        exact ⟨rfl, HSX.out, HF1.out⟩

set_option maxRecDepth 100000 in
set_option maxHeartbeats 1000000 in
theorem enoughS_any (w : World) (g vt : Nat) (c1 c2 c3 c4 c5 : Value) (hb : Bk w g 86 #[.int .i64 (vt : Int), c1, c2, c3, c4, c5]) (bh nh : Nat) (f : Int → Option Value) (hk : Km Try.prog 3 w bh nh f) (hn : nh < 100000) :
    Calls Try.prog 35 #[.pointer (some ⟨g, 0, none⟩), .map (some bh)] w fun e w' => e = .returned (.bool (decide (vt < 2 * nh))) ∧ Fr NoBlk w w' := by
  have c0 := hb.cell 0
  have hlen := hk.len Try.underlying72
  have c0' : w.drew.cell? ⟨g, 0, none⟩ = some (.int .i64 (vt : Int)) := hb.cell 0
  have hlen' := (hk.fr (Fr.refl NoBlk w).drew (fun h => h)).len Try.underlying72
  have hwr : IntKind.i64.wrap (2 * (nh : Int)) = 2 * (nh : Int) := IntWalk.i64_in _ (by omega)
  have hd : decide ((vt : Int) < 2 * (nh : Int)) = decide (vt < 2 * nh) := by
    rcases Nat.lt_or_ge vt (2 * nh) with h | h
    · rw [decide_eq_true h, decide_eq_true (by omega)]
    · rw [decide_eq_false (by omega), decide_eq_false (by omega)]
  rw [← hd]
  clear hb hk hd
  go_enter Try.func35, Try.ntmps35
  go_wp2_with fail
  go_region
  go_wp2_with fail
  go_ret
  exact ⟨rfl, (Fr.refl _ _).drew⟩

/-- the value under way. -/
def valOS (L : LdrS) : Option ByteArray := if L.leads then (L.vals L.slot).map (·.2.2) else none
def tupS (o : Option ByteArray) : Value := .tuple #[(o.map evS).getD (Value.string { data := #[] }), .bool o.isSome]
set_option maxRecDepth 100000 in
set_option maxHeartbeats 1000000 in
theorem valueS_any (w : World) (B g bp bt bv : Nat) (L : LdrS) (h : LdS w B g bp bt bv L) :
    Calls Try.prog 23 #[.pointer (some ⟨g, 0, none⟩)] w fun e w' => e = .returned (tupS (valOS L)) ∧ Fr NoBlk w w' := by
  have hb := h.bk
  unfold ldcS at hb
  have c1 : w.cell? ⟨g, 1, none⟩ = some (.int .i64 (L.slot : Int)) := hb.cell 1
  have c2 : w.cell? ⟨g, 2, none⟩ = some (.bool L.leads) := hb.cell 2
  have c5 : w.cell? ⟨g, 5, none⟩ = some (.map (some bv)) := hb.cell 5
  have d1 : w.drew.cell? ⟨g, 1, none⟩ = some (.int .i64 (L.slot : Int)) := hb.cell 1
  have d5 : w.drew.cell? ⟨g, 5, none⟩ = some (.map (some bv)) := hb.cell 5
  have hsl := h.sl
  have hx : wf64 (L.slot : Int) := wf64_of (by omega)
  have hlook := h.kv.look Try.underlying3 Try.underlying84 (zeroVtS w) hx
  have hlook' := (h.kv.fr (Fr.refl NoBlk w).drew (fun h => h)).look Try.underlying3 Try.underlying84 (zeroVtS w.drew) hx
  have hfa : Fr NoBlk w (w.alloc (.cells #[.int .i64 0, .int .u64 0, (Value.string { data := #[] })] 63)).drew := ((Fr.refl NoBlk w).alloc _).drew
  have hlook2 := (h.kv.fr hfa (fun h => h)).look Try.underlying3 Try.underlying84 (zeroVtS _) hx
  have e1 : (w.alloc (.cells #[.int .i64 0, .int .u64 0, (Value.string { data := #[] })] 63)).drew.cell? ⟨g, 1, none⟩ = some (.int .i64 (L.slot : Int)) := (hb.fr hfa (fun h => h)).cell 1
  have e5 : (w.alloc (.cells #[.int .i64 0, .int .u64 0, (Value.string { data := #[] })] 63)).drew.cell? ⟨g, 5, none⟩ = some (.map (some bv)) := (hb.fr hfa (fun h => h)).cell 5
  clear hfa
  unfold valOS
  generalize (L.slot : Int) = sl at *
  generalize L.leads = ld at *
  generalize L.vals sl = o at *
  clear h hb
  cases ld with
  | false =>
    clear hlook hlook' hlook2
    go_enter Try.func23, Try.ntmps23
    go_wp2_with fail
    go_ret2
    exact ⟨rfl, Fr.refl _ _⟩
  | true =>
    cases o with
    | none =>
      simp only [Option.map_none, Option.getD_none, Option.isSome_none] at hlook hlook' hlook2
      unfold zvS at hlook hlook' hlook2
      go_enter Try.func23, Try.ntmps23
      go_wp2_with fail
      go_region
      all_goals
        go_wp2_with fail
        go_ret2
        exact ⟨rfl, ((Fr.refl _ _).drew).alloc _⟩
    | some v =>
      obtain ⟨a, b, u⟩ := v
      simp only [Option.map_some, Option.getD_some, Option.isSome_some] at hlook hlook' hlook2
      unfold vtvS vtcS evS at hlook hlook' hlook2
      dsimp only at hlook hlook' hlook2
      go_enter Try.func23, Try.ntmps23
      go_wp2_with fail
      go_region
      all_goals
        go_wp2_with fail
        go_ret2
        exact ⟨rfl, ((Fr.refl _ _).drew).alloc _⟩
end Go.Proofs.Ytlajhnplkfiiiaa
