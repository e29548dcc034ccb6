/- The program's Leader at string: New, told, Offer. Conditions: numbers of their types; fewer entries than a length can be. -/
import Derived.Test.YtlajhnplkfiiiaaLdS
import Derived.Test.YtlajhnplkfiiiaaLdS
namespace Go.Proofs.Ytlajhnplkfiiiaa
open Go.RowKit Go.Maps

def newS (v f : Int) : LdrS := ⟨v.toNat, f.toNat, false, fun _ => false, 0, fun _ => false, 0, fun _ => none, 0⟩
theorem setF_noneS : setF (fun _ => false) = fun _ => none := by funext x; rfl
def NewSPost (w : World) (v f : Int) (e : Ending) (w' : World) : Prop :=
  Fr NoBlk w w' ∧ ((1 ≤ v ∧ v ≤ 9 ∧ 0 ≤ f ∧ f ≤ 64 ∧ ∃ g bp bt bv, e = .returned (.tuple #[.pointer (some ⟨g, 0, none⟩), .int .i64 0]) ∧ LdS w' w.heap.size g bp bt bv (newS v f)) ∨ (¬ (1 ≤ v ∧ v ≤ 9 ∧ 0 ≤ f ∧ f ≤ 64) ∧ e = .returned (.tuple #[.pointer none, .int .i64 1])))
set_option maxRecDepth 100000 in
set_option maxHeartbeats 1000000 in
theorem newS_any (w : World) (b v f : Int) :
    Calls Try.prog 15 #[.int .u64 b, .int .i64 v, .int .i64 f] w fun e w' => NewSPost w v f e w' := by
  by_cases h0 : v < 1
  · go_enter Try.func15, Try.ntmps15
    go_wp2_with fail
    go_ret2
    exact ⟨Fr.refl _ _, .inr ⟨by omega, rfl⟩⟩
  by_cases h1 : 9 < v
  · go_enter Try.func15, Try.ntmps15
    go_wp2_with fail
    go_ret2
    exact ⟨Fr.refl _ _, .inr ⟨by omega, rfl⟩⟩
  by_cases h2 : f < 0
  · go_enter Try.func15, Try.ntmps15
    go_wp2_with fail
    go_ret2
    exact ⟨Fr.refl _ _, .inr ⟨by omega, rfl⟩⟩
  by_cases h3 : 64 < f
  · go_enter Try.func15, Try.ntmps15
    go_wp2_with fail
    go_ret2
    exact ⟨Fr.refl _ _, .inr ⟨by omega, rfl⟩⟩
  have HB : Hid (1 ≤ v ∧ v ≤ 9 ∧ 0 ≤ f ∧ f ≤ 64) := ⟨by omega, by omega, by omega, by omega⟩
  have HF : Hid (∀ C, Fr NoBlk w ((((w.alloc (.map #[] 0)).alloc (.map #[] 0)).alloc (.map #[] 0)).alloc (.cells C 86))) := fun C => ((((Fr.refl NoBlk w).alloc _).alloc _).alloc _).alloc _
  have HK : Hid (LdS ((((w.alloc (.map #[] 0)).alloc (.map #[] 0)).alloc (.map #[] 0)).alloc (.cells #[.int .i64 v, .int .i64 f, .bool false, .map (some w.heap.size), .map (some (w.heap.size + 1)), .map (some (w.heap.size + 1 + 1))] 86)) w.heap.size (w.heap.size + 1 + 1 + 1) w.heap.size (w.heap.size + 1) (w.heap.size + 1 + 1) (newS v f)) := by
    have s1 : (w.alloc (.map #[] 0)).heap.size = w.heap.size + 1 := by simp
    have s2 : ((w.alloc (.map #[] 0)).alloc (.map #[] 0)).heap.size = w.heap.size + 1 + 1 := by rw [World.size_alloc, s1]
    have s3 : (((w.alloc (.map #[] 0)).alloc (.map #[] 0)).alloc (.map #[] 0)).heap.size = w.heap.size + 1 + 1 + 1 := by rw [World.size_alloc, s2]
    have k0 : Km Try.prog 3 (w.alloc (.map #[] 0)) w.heap.size 0 (fun _ => none) := Km.new w
    have k1 : Km Try.prog 3 ((w.alloc (.map #[] 0)).alloc (.map #[] 0)) (w.heap.size + 1) 0 (fun _ => none) := s1 ▸ Km.new _
    have k2 : Km Try.prog 3 (((w.alloc (.map #[] 0)).alloc (.map #[] 0)).alloc (.map #[] 0)) (w.heap.size + 1 + 1) 0 (fun _ => none) := s2 ▸ Km.new _
    have b := Bk.new (((w.alloc (.map #[] 0)).alloc (.map #[] 0)).alloc (.map #[] 0)) 86 #[.int .i64 v, .int .i64 f, .bool false, .map (some w.heap.size), .map (some (w.heap.size + 1)), .map (some (w.heap.size + 1 + 1))]
    rw [s3] at b
    have ev : ((v.toNat : Nat) : Int) = v := by have := HB.out; omega
    have ef : ((f.toNat : Nat) : Int) = f := by have := HB.out; omega
    refine ⟨?_, ?_, ?_, ?_, by omega, by omega, by omega, by omega, Nat.le_refl _, by omega, by omega, ?_, ?_, fun x hx => absurd rfl hx⟩
    · unfold ldcS newS
      dsimp only
      rw [ev, ef]
      exact b
    · show Km _ _ _ _ _ (setF _)
      rw [show setF (newS v f).pr = fun _ => none from setF_noneS]
      exact k0.fr ((((Fr.refl NoBlk _).alloc _).alloc _).alloc _) (fun h => h)
    · rw [show setF (newS v f).tk = fun _ => none from setF_noneS]
      exact k1.fr (((Fr.refl NoBlk _).alloc _).alloc _) (fun h => h)
    · exact k2.fr ((Fr.refl NoBlk _).alloc _) (fun h => h)
    · have := HB.out; exact ⟨by show 1 ≤ v.toNat; omega, by show v.toNat ≤ 9; omega⟩
    · have := HB.out; show f.toNat ≤ 64; omega
  have hmm := @run_makeMap Try.prog
  go_enter Try.func15, Try.ntmps15
  go_wp2_with fail
  go_ret2
  exact ⟨HF.out _, .inl ⟨HB.out.1, HB.out.2.1, HB.out.2.2.1, HB.out.2.2.2, _, _, _, _, rfl, HK.out⟩⟩

/-- behind a vote of which a promise tells. -/
def toldS (L : LdrS) (v : VtS) : LdrS :=
  if v.1 < (L.slot : Int) ∨ 64 ≤ v.1 then L else match L.vals v.1 with
    | none => { L with vals := updK L.vals v.1 (some v), nv := L.nv + 1 }
    | some u => if u.2.1 < v.2.1 then { L with vals := updK L.vals v.1 (some v) } else L
theorem LdS.put {w w' : World} {B g bp bt bv : Nat} {L : LdrS} (h : LdS w B g bp bt bv L) {x : Int} (hx : 0 ≤ x ∧ x < 64) (v : VtS) {n : Nat}
    (hk : Km Try.prog 3 w' bv n (updK (fun x => (L.vals x).map vtvS) x (some (vtvS v)))) (hf : Fr (fun j => j = bv) w w') : LdS w' B g bp bt bv { L with vals := updK L.vals x (some v), nv := n } := by
  refine ⟨h.bk.fr hf (fun e => ?_), h.kp.fr hf h.n2, h.kt.fr hf h.n3, hk.congr fun y _ => updK_map vtvS L.vals x (some v) y, h.n1, h.n2, h.n3, h.b0, h.b1, h.b2, h.b3, h.vo, h.sl, fun y hy => ?_⟩
  · subst e
    obtain ⟨D, ⟨es, clock, hb, _⟩, _⟩ := h.kv
    have h1 := h.bk
    unfold Bk at h1
    rw [h1] at hb
    cases hb
  · by_cases e : y = x
    · subst e; exact hx
    · exact h.vd y (by rwa [show ({ L with vals := updK L.vals x (some v), nv := n } : LdrS).vals y = L.vals y from updK_other _ _ e] at hy)

set_option maxRecDepth 100000 in
set_option maxHeartbeats 2000000 in
theorem toldS_any (w : World) (B g bp bt bv : Nat) (L : LdrS) (h : LdS w B g bp bt bv L) (hn : L.nv < 100000) (v : VtS) (hx : wf64 v.1) :
    Calls Try.prog 34 #[.pointer (some ⟨g, 0, none⟩), .agg (vtcS v)] w fun e w' => e = .returned (.tuple #[]) ∧ LdS w' B g bp bt bv (toldS L v) ∧ Fr (fun j => j = bv) w w' := by
  obtain ⟨wA, hwA⟩ : ∃ wA, wA = w.alloc (.cells (vtcS v) 63) := ⟨_, rfl⟩
  obtain ⟨ob, hob⟩ : ∃ ob, ob = w.heap.size := ⟨_, rfl⟩
  have HFA : Hid (Fr (fun j => j = bv) w wA) := by show Fr _ _ _; rw [hwA]; exact (Fr.refl _ _).alloc _
  have HA : Hid (LdS wA B g bp bt bv L) := by show LdS _ _ _ _ _ _ _; rw [hwA]; exact h.nofr ((Fr.refl _ _).alloc _)
  have HBX : Hid (Bk wA ob 63 (vtcS v)) := by show Bk _ _ _ _; rw [hwA, hob]; exact Bk.new _ _ _
  have HT1 : Hid ((v.1 < (L.slot : Int) ∨ 64 ≤ v.1) → toldS L v = L) := fun hh => by unfold toldS; rw [if_pos hh]
  have HT2 : Hid (¬ (v.1 < (L.slot : Int) ∨ 64 ≤ v.1) → L.vals v.1 = none → toldS L v = { L with vals := updK L.vals v.1 (some v), nv := L.nv + 1 }) := fun hh hv => by unfold toldS; rw [if_neg hh, hv]
  have HT3 : Hid (¬ (v.1 < (L.slot : Int) ∨ 64 ≤ v.1) → ∀ u, L.vals v.1 = some u → toldS L v = if u.2.1 < v.2.1 then { L with vals := updK L.vals v.1 (some v) } else L) := fun hh u hv => by unfold toldS; rw [if_neg hh, hv]
  have HP : Hid (∀ W, LdS W B g bp bt bv L → (0 ≤ v.1 ∧ v.1 < 64) → ∃ w', (Instr.mapUpdate 84 (.map (some bv)) (.int .i64 v.1) (vtvS v)).run Try.prog W = .ok () w' ∧ LdS w' B g bp bt bv { L with vals := updK L.vals v.1 (some v), nv := if (L.vals v.1).isSome then L.nv else L.nv + 1 } ∧ Fr (fun j => j = bv) W w') := fun W hW hr => by
    obtain ⟨w', h1, h2, h3⟩ := hW.kv.put Try.underlying3 Try.underlying84 (by unfold maxLen; omega) hx (vtvS v)
    rw [Option.isSome_map] at h2
    exact ⟨w', h1, hW.put hr v h2 h3, h3⟩
  have HLK : Hid (∀ W, LdS W B g bp bt bv L → (Instr.lookup 84 (.map (some bv)) (.int .i64 v.1) true).run Try.prog W = .ok (.tuple #[((L.vals v.1).map vtvS).getD zvS, .bool (L.vals v.1).isSome]) W) := fun W hW => by
    have := hW.kv.look Try.underlying3 Try.underlying84 (zeroVtS W) hx
    rwa [Option.isSome_map] at this
  have HC : Hid (∀ W, LdS W B g bp bt bv L → W.cell? ⟨g, 1, none⟩ = some (.int .i64 (L.slot : Int)) ∧ W.cell? ⟨g, 5, none⟩ = some (.map (some bv))) := fun W hW => ⟨by have := hW.bk; unfold ldcS at this; exact this.cell 1, by have := hW.bk; unfold ldcS at this; exact this.cell 5⟩
  obtain ⟨a, b, u⟩ := v
  unfold vtvS at HP
  unfold vtcS evS at hwA HBX HP
  unfold vtcS evS
  dsimp only at hwA HBX HP HT1 HT2 HT3 HLK hx ⊢
  generalize toldS L (a, b, u) = L' at *
  have HX := Lib.hid hx
  have HN := Lib.hid hn
  clear h hx hn
  go_enter Try.func34, Try.ntmps34
  go_upto_region 1 with fail
  rw [← hwA, ← hob]
  clear hwA hob
  have b0 : wA.drew.cell? ⟨ob, 0, none⟩ = some (.int .i64 a) := HBX.out.cell 0
  have g1 : wA.drew.cell? ⟨g, 1, none⟩ = some (.int .i64 (L.slot : Int)) := (HC.out _ HA.out).1
  by_cases h1 : a < (L.slot : Int)
  · have HZ : Hid (L' = L) := HT1.out (.inl h1)
    go_region
    go_wp2_with fail
    refine bodyPost_ret (results_none rfl _ _ _) rfl ?_
    exact ⟨rfl, by rw [HZ.out]; exact HA.out.nofr (Fr.refl _ _).drew, HFA.out.drew⟩
  by_cases h2 : 64 ≤ a
  · have HZ : Hid (L' = L) := HT1.out (.inr h2)
    go_region
    go_wp2_with fail
    refine bodyPost_ret (results_none rfl _ _ _) rfl ?_
    exact ⟨rfl, by rw [HZ.out]; exact HA.out.nofr (Fr.refl _ _).drew, HFA.out.drew⟩
  have HNO : Hid (¬ (a < (L.slot : Int) ∨ 64 ≤ a)) := by
    intro hh
    rcases hh with hh | hh
    · exact h1 hh
    · exact h2 hh
  have HRG : Hid (0 ≤ a ∧ a < 64) := ⟨by omega, by omega⟩
  go_region
  obtain ⟨wB, hwB⟩ : ∃ wB, wB = wA.drew := ⟨_, rfl⟩
  have HB : Hid (LdS wB B g bp bt bv L) := by show LdS _ _ _ _ _ _ _; rw [hwB]; exact HA.out.nofr (Fr.refl _ _).drew
  have HBB : Hid (Bk wB ob 63 #[.int .i64 a, .int .u64 (b : Int), .string u]) := by show Bk _ _ _ _; rw [hwB]; exact HBX.out
  have HFB : Hid (Fr (fun j => j = bv) w wB) := by show Fr _ _ _; rw [hwB]; exact HFA.out.drew
  go_wp2_with fail
  rw [← hwB]
  clear hwB b0 g1 HA HBX HFA
  have hfa : Fr NoBlk wB (wB.alloc (.cells #[.int .i64 0, .int .u64 0, (Value.string { data := #[] })] 63)).drew := ((Fr.refl NoBlk wB).alloc _).drew
  have b0 : wB.drew.cell? ⟨ob, 0, none⟩ = some (.int .i64 a) := HBB.out.cell 0
  have b0' : (wB.alloc (.cells #[.int .i64 0, .int .u64 0, (Value.string { data := #[] })] 63)).drew.cell? ⟨ob, 0, none⟩ = some (.int .i64 a) := (HBB.out.fr hfa fun h => h).cell 0
  have g5 : wB.drew.cell? ⟨g, 5, none⟩ = some (.map (some bv)) := (HC.out _ (HB.out.nofr (Fr.refl _ _).drew)).2
  have g5' : (wB.alloc (.cells #[.int .i64 0, .int .u64 0, (Value.string { data := #[] })] 63)).drew.cell? ⟨g, 5, none⟩ = some (.map (some bv)) := (HC.out _ (HB.out.nofr hfa)).2
  have l1 := HLK.out _ (HB.out.nofr (Fr.refl _ _).drew)
  have l2 := HLK.out _ (HB.out.nofr hfa)
  clear hfa HLK
  obtain ⟨o, ho⟩ : ∃ o, o = L.vals a := ⟨_, rfl⟩
  rw [← ho] at l1 l2
  have HO := Lib.hid ho
  clear ho
  cases o with
  | none =>
    simp only [Option.map_none, Option.getD_none, Option.isSome_none] at l1 l2
    unfold zvS at l1 l2
    have HZ := Lib.hid (HT2.out HNO.out HO.out.symm)
    clear HT1 HT2 HT3
    obtain ⟨w3, hw3⟩ : ∃ w3, w3 = wB.drew.alloc (.cells #[.int .i64 0, .int .u64 0, (Value.string { data := #[] })] 63) := ⟨_, rfl⟩
    have HF3 : Hid (Fr NoBlk wB w3) := by show Fr _ _ _; rw [hw3]; exact ((Fr.refl NoBlk wB).drew).alloc _
    have HL3 := Lib.hid (HB.out.nofr HF3.out)
    have HB3 := Lib.hid (HBB.out.fr HF3.out fun h => h)
    have b1 : w3.cell? ⟨ob, 1, none⟩ = some (.int .u64 (b : Int)) := HB3.out.cell 1
    have n1 : w3.cell? ⟨wB.heap.size, 1, none⟩ = some (.int .u64 0) := by
      have h := Bk.new wB.drew 63 #[.int .i64 0, .int .u64 0, (Value.string { data := #[] })]
      rw [← hw3] at h
      exact h.cell 1
    have d0 : w3.drew.cell? ⟨ob, 0, none⟩ = some (.int .i64 a) := HB3.out.cell 0
    have d1 : w3.drew.cell? ⟨ob, 1, none⟩ = some (.int .u64 (b : Int)) := HB3.out.cell 1
    have d2 : w3.drew.cell? ⟨ob, 2, none⟩ = some (.string u) := HB3.out.cell 2
    have d5 : w3.drew.cell? ⟨g, 5, none⟩ = some (.map (some bv)) := (HC.out _ (HL3.out.nofr (Fr.refl _ _).drew)).2
    obtain ⟨w4, hput, hl4, hf4⟩ := HP.out w3.drew (HL3.out.nofr (Fr.refl _ _).drew) HRG.out
    have HF4 : Hid (Fr (fun j => j = bv) w w4) := ((HFB.out.trans (HF3.out.mono fun _ _ h => h.elim)).drew).trans hf4
    rw [← HO.out] at hl4
    have HL4 := Lib.hid hl4
    clear hl4 hf4
    simp only [Option.isSome_none] at HL4
    go_region
    all_goals
      first
        | rw [show (wB.alloc (.cells #[.int .i64 0, .int .u64 0, (Value.string { data := #[] })] 63)).drew = wB.drew.alloc (.cells #[.int .i64 0, .int .u64 0, (Value.string { data := #[] })] 63) from rfl]
        | skip
      rw [← hw3]
      clear hw3
      go_wp2_with fail
      go_region
      go_wp2_with fail
      go_end0
      exact ⟨rfl, by rw [HZ.out]; exact HL4.out, HF4.out⟩
  | some v2 =>
    obtain ⟨a2, b2, u2⟩ := v2
    simp only [Option.map_some, Option.getD_some, Option.isSome_some] at l1 l2
    unfold vtvS vtcS evS at l1 l2
    dsimp only at l1 l2
    have HZ0 := Lib.hid (HT3.out HNO.out _ HO.out.symm)
    clear HT1 HT2 HT3
    dsimp only at HZ0
    by_cases hbb : b2 < b
    · have HZ : Hid (L' = { L with vals := updK L.vals a (some (a, b, u)) }) := by show _ = _; rw [HZ0.out, if_pos hbb]
      have hbi : (b2 : Int) < (b : Int) := by omega
      clear HZ0 hbb
      obtain ⟨w3, hw3⟩ : ∃ w3, w3 = wB.drew.alloc (.cells #[.int .i64 a2, .int .u64 (b2 : Int), .string u2] 63) := ⟨_, rfl⟩
      have HF3 : Hid (Fr NoBlk wB w3) := by show Fr _ _ _; rw [hw3]; exact ((Fr.refl NoBlk wB).drew).alloc _
      have HL3 := Lib.hid (HB.out.nofr HF3.out)
      have HB3 := Lib.hid (HBB.out.fr HF3.out fun h => h)
      have b1 : w3.cell? ⟨ob, 1, none⟩ = some (.int .u64 (b : Int)) := HB3.out.cell 1
      have n1 : w3.cell? ⟨wB.heap.size, 1, none⟩ = some (.int .u64 (b2 : Int)) := by
        have h := Bk.new wB.drew 63 #[.int .i64 a2, .int .u64 (b2 : Int), .string u2]
        rw [← hw3] at h
        exact h.cell 1
      have d0 : w3.drew.cell? ⟨ob, 0, none⟩ = some (.int .i64 a) := HB3.out.cell 0
      have d1 : w3.drew.cell? ⟨ob, 1, none⟩ = some (.int .u64 (b : Int)) := HB3.out.cell 1
      have d2 : w3.drew.cell? ⟨ob, 2, none⟩ = some (.string u) := HB3.out.cell 2
      have d5 : w3.drew.cell? ⟨g, 5, none⟩ = some (.map (some bv)) := (HC.out _ (HL3.out.nofr (Fr.refl _ _).drew)).2
      obtain ⟨w4, hput, hl4, hf4⟩ := HP.out w3.drew (HL3.out.nofr (Fr.refl _ _).drew) HRG.out
      have HF4 : Hid (Fr (fun j => j = bv) w w4) := ((HFB.out.trans (HF3.out.mono fun _ _ h => h.elim)).drew).trans hf4
      rw [← HO.out] at hl4
      have HL4 := Lib.hid hl4
      clear hl4 hf4
      simp only [Option.isSome_some, if_true] at HL4
      go_region
      all_goals
        first
          | rw [show (wB.alloc (.cells #[.int .i64 a2, .int .u64 (b2 : Int), .string u2] 63)).drew = wB.drew.alloc (.cells #[.int .i64 a2, .int .u64 (b2 : Int), .string u2] 63) from rfl]
          | skip
        rw [← hw3]
        clear hw3
        go_wp2_with fail
        go_region
        go_wp2_with fail
        go_end0
        exact ⟨rfl, by rw [HZ.out]; exact HL4.out, HF4.out⟩
    · have HZ : Hid (L' = L) := by show _ = _; rw [HZ0.out, if_neg hbb]
      have hbi : ¬ ((b2 : Int) < (b : Int)) := by omega
      clear HZ0 hbb
      obtain ⟨w3, hw3⟩ : ∃ w3, w3 = wB.drew.alloc (.cells #[.int .i64 a2, .int .u64 (b2 : Int), .string u2] 63) := ⟨_, rfl⟩
      have HF3 : Hid (Fr NoBlk wB w3) := by show Fr _ _ _; rw [hw3]; exact ((Fr.refl NoBlk wB).drew).alloc _
      have HL3 := Lib.hid (HB.out.nofr HF3.out)
      have HB3 := Lib.hid (HBB.out.fr HF3.out fun h => h)
      have b1 : w3.cell? ⟨ob, 1, none⟩ = some (.int .u64 (b : Int)) := HB3.out.cell 1
      have n1 : w3.cell? ⟨wB.heap.size, 1, none⟩ = some (.int .u64 (b2 : Int)) := by
        have h := Bk.new wB.drew 63 #[.int .i64 a2, .int .u64 (b2 : Int), .string u2]
        rw [← hw3] at h
        exact h.cell 1
      have d0 : w3.drew.cell? ⟨ob, 0, none⟩ = some (.int .i64 a) := HB3.out.cell 0
      have d1 : w3.drew.cell? ⟨ob, 1, none⟩ = some (.int .u64 (b : Int)) := HB3.out.cell 1
      have d2 : w3.drew.cell? ⟨ob, 2, none⟩ = some (.string u) := HB3.out.cell 2
      have d5 : w3.drew.cell? ⟨g, 5, none⟩ = some (.map (some bv)) := (HC.out _ (HL3.out.nofr (Fr.refl _ _).drew)).2
      obtain ⟨w4, hput, hl4, hf4⟩ := HP.out w3.drew (HL3.out.nofr (Fr.refl _ _).drew) HRG.out
      have HF4 : Hid (Fr (fun j => j = bv) w w4) := ((HFB.out.trans (HF3.out.mono fun _ _ h => h.elim)).drew).trans hf4
      rw [← HO.out] at hl4
      have HL4 := Lib.hid hl4
      clear hl4 hf4
      clear hput
      go_region
      all_goals
        first
          | rw [show (wB.alloc (.cells #[.int .i64 a2, .int .u64 (b2 : Int), .string u2] 63)).drew = wB.drew.alloc (.cells #[.int .i64 a2, .int .u64 (b2 : Int), .string u2] 63) from rfl]
          | skip
        rw [← hw3]
        clear hw3
        go_wp2_with fail
        go_end0
        exact ⟨rfl, by rw [HZ.out]; exact HL3.out, HFB.out.trans (HF3.out.mono fun _ _ h => h.elim)⟩
end Go.Proofs.Ytlajhnplkfiiiaa
