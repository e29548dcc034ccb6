/- The document's leader: New, Value, Offer. Conditions: fewer votes than a length can be. -/
import Derived.Test.YtimfinpifngdiaaDl2
import Derived.BigQuiet
import Derived.Deep.QuietTactic
namespace Go.Proofs.Ytimfinpifngdiaa
open Go.RowKit Go.Maps

/-- the first of the greatest votes at a place. -/
def bstep (s : Int) (o : Option VtS) (v : VtS) : Option VtS := match o with
  | none => if v.1 = s then some v else none
  | some u => if v.1 = s ∧ u.2.1 < v.2.1 then some v else some u
def best (s : Int) (l : List VtS) : Option VtS := l.foldl (bstep s) none
theorem best_next (s : Int) {l : List VtS} {k : Nat} {v : VtS} (h : l[k]? = some v) : best s (l.take (k + 1)) = bstep s (best s (l.take k)) v := by
  unfold best
  rw [List.take_add_one, h]
  exact List.foldl_append ..
def bcel : Option VtS → Array Value
  | none => #[.int .i64 0, .int .u64 0, (Value.string { data := #[] })]
  | some v => vtcS v
/-- what is under way. -/
def rval (R : Rdr) : Option ByteArray := if rleads R = true ∧ R.slot ≤ 63 then match best R.slot R.told with
  | some v => some v.2.2
  | none => if R.has then some R.off else none else none
theorem rval_off (R : Rdr) (h : R.has = false → R.off = ⟨#[]⟩) (hb : best R.slot R.told = none) (hl : rleads R = true) (hs : R.slot ≤ 63) : rval R = (if R.has then some R.off else none) ∧ tupS (rval R) = .tuple #[.string R.off, .bool R.has] := by
  have e : rval R = if R.has then some R.off else none := by
    unfold rval
    rw [if_pos ⟨hl, hs⟩, hb]
  refine ⟨e, ?_⟩
  rw [e]
  cases hh : R.has with
  | true => rfl
  | false => rw [h hh]; rfl
theorem rval_best (R : Rdr) {v : VtS} (hb : best R.slot R.told = some v) (hl : rleads R = true) (hs : R.slot ≤ 63) : rval R = some v.2.2 := by
  unfold rval
  rw [if_pos ⟨hl, hs⟩, hb]

set_option maxRecDepth 100000 in
set_option maxHeartbeats 2000000 in
theorem rval_any (w : World) (B g c : Nat) (A : Option Addr) (R : Rdr) (h : RdL w B g A c R) (hn : R.told.length ≤ 100000) :
    Calls Try.prog 20 #[.pointer (some ⟨g, 0, none⟩)] w fun e w' => e = .returned (tupS (rval R)) ∧ Fr NoBlk w w' := by
  have HH := Lib.hid h
  have HLD := Lib.hid h.leads
  have HSL := Lib.hid h.sl
  have HN := Lib.hid hn
  have HV0 : Hid (¬ (rleads R = true ∧ R.slot ≤ 63) → rval R = none) := fun hc => if_neg hc
  have HV1 : Hid (best R.slot R.told = none → rleads R = true → R.slot ≤ 63 → tupS (rval R) = .tuple #[.string R.off, .bool R.has]) := fun a b c => (rval_off R h.ho a b c).2
  have HV2 : Hid (∀ v, best R.slot R.told = some v → rleads R = true → R.slot ≤ 63 → tupS (rval R) = .tuple #[.string v.2.2, .bool true]) := fun v a b c => by rw [rval_best R a b c]; rfl
  obtain ⟨V, hV⟩ : ∃ V, V = tupS (rval R) := ⟨_, rfl⟩
  have HVE : Hid (V = tupS (rval R)) := hV
  rw [← hV] at HV1 HV2 ⊢
  clear hV h hn
  obtain ⟨ld, hld⟩ : ∃ ld, ld = rleads R := ⟨_, rfl⟩
  rw [← hld] at HLD HV0 HV1 HV2
  clear hld
  go_enter Try.func20, Try.ntmps20
  go_wp2_with fail
  refine HLD.out.mono ?_
  clear HLD
  rintro e w2 ⟨rfl, hf2⟩
  have HF2 := Lib.hid hf2
  have H2 := Lib.hid (HH.out.nofr hf2)
  clear hf2 HH
  cases ld with
  | false =>
    have HZ : Hid (V = .tuple #[(Value.string { data := #[] }), .bool false]) := by show _ = _; rw [HVE.out, HV0.out (by rintro ⟨h, _⟩; cases h)]; rfl
    clear HV0 HV1 HV2
    go_wp2_with fail
    go_ret2
    exact ⟨by rw [HZ.out]; rfl, HF2.out⟩
  | true =>
    have c1 : w2.cell? ⟨g, 1, none⟩ = some (.int .i64 (R.slot : Int)) := H2.out.bk.cell 1
    by_cases h63 : 63 < R.slot
    · have h63i : (63 : Int) < (R.slot : Int) := by omega
      have HZ : Hid (V = .tuple #[(Value.string { data := #[] }), .bool false]) := by show _ = _; rw [HVE.out, HV0.out (by rintro ⟨_, h⟩; omega)]; rfl
      clear HV0 HV1 HV2
      go_wp2_with fail
      go_ret2
      exact ⟨by rw [HZ.out]; rfl, HF2.out⟩
    have h63i : (R.slot : Int) ≤ 63 := by omega
    have h63j : ¬ (63 : Int) < (R.slot : Int) := by omega
    have HS63 : Hid (R.slot ≤ 63) := by show _ ≤ _; omega
    clear h63
    obtain ⟨w3, hw3⟩ : ∃ w3, w3 = w2.alloc (.cells #[.int .i64 0, .int .u64 0, (Value.string { data := #[] })] 86) := ⟨_, rfl⟩
    obtain ⟨bb, hbb⟩ : ∃ bb, bb = w2.heap.size := ⟨_, rfl⟩
    have HF3 : Hid (Fr NoBlk w2 w3) := by show Fr _ _ _; rw [hw3]; exact (Fr.refl _ _).alloc _
    have HBB : Hid (Bk w3 bb 86 (bcel none)) := by show Bk _ _ _ _; rw [hw3, hbb]; exact Bk.new _ _ _
    have HBS : Hid (bb = w2.heap.size) := hbb
    clear HV0
    go_wp2_with fail
    rw [← hw3, ← hbb]
    clear hw3 hbb c1
    go_loopw [5, 6] (fun f i wr => ∃ (k : Nat) (o : Option VtS), k ≤ R.told.length ∧ i = .int .i64 k ∧ f = .bool o.isSome ∧ Hid (o = best R.slot (R.told.take k) ∧ Fr NoBlk w2 wr ∧ Bk wr bb 86 (bcel o))) (fun _ i _ => R.told.length - (intOf i).toNat)
    case atStart => exact ⟨0, none, Nat.zero_le _, rfl, rfl, rfl, HF3.out, HBB.out⟩
    case round =>
      obtain ⟨k, o, hk, rfl, rfl, HX⟩ := hrel
      have HR := Lib.hid (H2.out.nofr HX.out.2.1)
      have HKN := Lib.hid hk
      have c11 : wr.cell? ⟨g, 11, none⟩ = some (.slice A R.told.length c) := HR.out.bk.cell 11
      by_cases hlt : k < R.told.length
      · obtain ⟨v, hv⟩ : ∃ v, R.told[k]? = some v := ⟨_, List.getElem?_eq_getElem hlt⟩
        obtain ⟨b0, o0, rfl, d0, d1, d2⟩ := Rd.vtS (Rd.of_ownW HR.out.own) hv
        have HNX := Lib.hid (best_next R.slot hv)
        obtain ⟨n, hn⟩ : ∃ n, n = R.told.length := ⟨_, rfl⟩
        have hki : (k : Int) < (n : Int) := by omega
        have hkn : k < n := by omega
        have hn5 : n ≤ 100000 := by rw [hn]; exact HN.out
        rw [← hn] at c11
        have HNE := Lib.hid hn
        clear hn hlt hk
        obtain ⟨vx, vb, vv⟩ := v
        obtain ⟨w5, hw5⟩ : ∃ w5, w5 = wr.alloc (.cells (vtcS (vx, vb, vv)) 86) := ⟨_, rfl⟩
        obtain ⟨xb, hxb⟩ : ∃ xb, xb = wr.heap.size := ⟨_, rfl⟩
        have HF5 : Hid (Fr NoBlk wr w5) := by show Fr _ _ _; rw [hw5]; exact (Fr.refl _ _).alloc _
        have HXB : Hid (Bk w5 xb 86 (vtcS (vx, vb, vv))) := by show Bk _ _ _ _; rw [hw5, hxb]; exact Bk.new _ _ _
        have hbx : bb ≠ xb := by have := HBS.out; have := HX.out.2.1.size; have := HBB.out; have h3 := (Array.getElem?_eq_some_iff.1 HX.out.2.2).1; omega
        have HBB5 := Lib.hid (HX.out.2.2.fr HF5.out fun h => h)
        have HR5 := Lib.hid (HR.out.nofr HF5.out)
        unfold vtcS evS at hw5
        unfold evS at d2
        dsimp only at d0 d1 d2 hw5
        have hwr : IntKind.i64.wrap ((k : Int) + 1) = (k : Int) + 1 := IntWalk.i64_in _ (by omega)
        go_wp2_with fail
        rw [← hw5, ← hxb]
        clear hw5 hxb c11 d0 d1 d2
        have e0 : w5.cell? ⟨xb, 0, none⟩ = some (.int .i64 vx) := HXB.out.cell 0
        have e1 : w5.cell? ⟨xb, 1, none⟩ = some (.int .u64 (vb : Int)) := HXB.out.cell 1
        have e2 : w5.cell? ⟨xb, 2, none⟩ = some (.string vv) := HXB.out.cell 2
        have e3 : w5.cell? ⟨g, 1, none⟩ = some (.int .i64 (R.slot : Int)) := HR5.out.bk.cell 1
        have f0 := HBB5.out.free 0
        have f1 := HBB5.out.free 1
        have f2 := HBB5.out.free 2
        have HFR5 : Hid (Fr NoBlk w2 w5) := HX.out.2.1.trans HF5.out
        have HKEEP : Hid (∀ nq, Fr NoBlk w2 (w5.drewN nq) ∧ Bk (w5.drewN nq) bb 86 (bcel o)) := fun nq => ⟨HFR5.out.drewN nq, HBB5.out.fr ((Fr.refl NoBlk _).drewN nq) fun h => h⟩
        have HPUT : Hid (∀ nq, Fr NoBlk w2 ((((w5.drewN nq).setCell ⟨bb, 0, none⟩ (.int .i64 vx)).setCell ⟨bb, 1, none⟩ (.int .u64 (vb : Int))).setCell ⟨bb, 2, none⟩ (.string vv)) ∧ Bk ((((w5.drewN nq).setCell ⟨bb, 0, none⟩ (.int .i64 vx)).setCell ⟨bb, 1, none⟩ (.int .u64 (vb : Int))).setCell ⟨bb, 2, none⟩ (.string vv)) bb 86 (bcel (some (vx, vb, vv)))) := fun nq => by
          have hlt : bb < w2.heap.size → NoBlk bb := fun h => by have := HBS.out; omega
          refine ⟨(((HFR5.out.drewN nq).setCell (p := ⟨bb, 0, none⟩) hlt _).setCell (p := ⟨bb, 1, none⟩) hlt _).setCell (p := ⟨bb, 2, none⟩) hlt _, ?_⟩
          have h3 := ((HKEEP.out nq).2.put 0 (.int .i64 vx)).put 1 (.int .u64 (vb : Int)) |>.put 2 (.string vv)
          cases o with
          | none => exact h3
          | some u => exact h3
        have HNO : Hid (∀ o', o' = bstep (R.slot : Int) o (vx, vb, vv) → o' = best (R.slot : Int) (R.told.take (k + 1))) := fun o' e => by rw [HNX.out, ← HX.out.1]; exact e
        obtain ⟨sl, hsl⟩ : ∃ sl : Int, sl = (R.slot : Int) := ⟨_, rfl⟩
        rw [← hsl] at e3
        have HSLE := Lib.hid hsl
        clear hsl HX HNX HKEEP
        have HKEEP : Hid (∀ nq, Fr NoBlk w2 (w5.drewN nq) ∧ Bk (w5.drewN nq) bb 86 (bcel o)) := fun nq => ⟨HFR5.out.drewN nq, HBB5.out.fr ((Fr.refl NoBlk _).drewN nq) fun h => h⟩
        by_cases hs : vx = sl
        · subst hs
          cases o with
          | none =>
            have b0 : w5.cell? ⟨bb, 0, none⟩ = some (.int .i64 0) := HBB5.out.cell 0
            have b1 : w5.cell? ⟨bb, 1, none⟩ = some (.int .u64 0) := HBB5.out.cell 1
            have b2 : w5.cell? ⟨bb, 2, none⟩ = some (Value.string { data := #[] }) := HBB5.out.cell 2
            go_quiet (fail)
            go_wp2_with fail
            go_roundw
            case rel => exact ⟨k + 1, some (vx, vb, vv), by have := HKN.out; have := HNE.out; omega, by go_num, rfl, HNO.out _ (by exact (if_pos HSLE.out).symm), (HPUT.out _).1, (HPUT.out _).2⟩
            case measure => have := HNE.out; simp [intOf]; omega
          | some u =>
            obtain ⟨ux, ub, uv⟩ := u
            have b0 : w5.cell? ⟨bb, 0, none⟩ = some (.int .i64 ux) := HBB5.out.cell 0
            have b1 : w5.cell? ⟨bb, 1, none⟩ = some (.int .u64 (ub : Int)) := HBB5.out.cell 1
            have b2 : w5.cell? ⟨bb, 2, none⟩ = some (Value.string uv) := HBB5.out.cell 2
            by_cases hlt : (ub : Int) < (vb : Int)
            · have HLT : Hid (ub < vb) := by show _ < _; omega
              go_quiet (fail)
              go_wp2_with fail
              go_roundw
              case rel => exact ⟨k + 1, some (vx, vb, vv), by have := HKN.out; have := HNE.out; omega, by go_num, rfl, HNO.out _ (by exact (if_pos ⟨HSLE.out, HLT.out⟩).symm), (HPUT.out _).1, (HPUT.out _).2⟩
              case measure => have := HNE.out; simp [intOf]; omega
            · have HLT : Hid (¬ ub < vb) := by show ¬ _; omega
              have hlt2 : decide ((ub : Int) < (vb : Int)) = false := decide_eq_false hlt
              go_quiet (fail)
              go_wp2_with fail
              go_roundw
              case rel => exact ⟨k + 1, some (ux, ub, uv), by have := HKN.out; have := HNE.out; omega, by go_num, rfl, HNO.out _ (by exact (if_neg (fun h => HLT.out h.2)).symm), (HKEEP.out _).1, (HKEEP.out _).2⟩
              case measure => have := HNE.out; simp [intOf]; omega
        · have HS0 : Hid (vx ≠ sl) := hs
          have hs2 : (vx == sl) = false := beq_eq_false_iff_ne.2 hs
          have hs3 : decide (vx = sl) = false := decide_eq_false hs
          have HSS : Hid (o = bstep (R.slot : Int) o (vx, vb, vv)) := by
            show o = _
            cases o with
            | none => exact (if_neg (fun h => HS0.out (h.trans HSLE.out.symm))).symm
            | some u => exact (if_neg (fun h => HS0.out (h.1.trans HSLE.out.symm))).symm
          clear hs
          go_quiet (fail)
          go_wp2_with fail
          go_roundw
          case rel => exact ⟨k + 1, o, by have := HKN.out; have := HNE.out; omega, by go_num, rfl, HNO.out _ (HSS.out), (HKEEP.out _).1, (HKEEP.out _).2⟩
          case measure => have := HNE.out; simp [intOf]; omega
      · have he : R.told.length = k := by omega
        rw [he] at c11
        have HB : Hid (o = best (R.slot : Int) R.told) := by
          show _ = _
          have h := HX.out.1
          rwa [← he, List.take_length] at h
        have HFZ : Hid (Fr NoBlk w wr) := HF2.out.trans HX.out.2.1
        have HBX := Lib.hid HX.out.2.2
        clear hlt he hk HX
        cases o with
        | some u =>
          obtain ⟨ux, ub, uv⟩ := u
          have HZ := Lib.hid (HV2.out _ HB.out.symm trivial HS63.out)
          have b2 : wr.cell? ⟨bb, 2, none⟩ = some (Value.string uv) := HBX.out.cell 2
          clear HV1 HV2
          go_wp2_with fail
          go_ret2
          exact ⟨by rw [HZ.out]; rfl, HFZ.out⟩
        | none =>
          have HZ := Lib.hid (HV1.out HB.out.symm trivial HS63.out)
          have b4 : wr.cell? ⟨g, 12, none⟩ = some (Value.string R.off) := HR.out.bk.cell 12
          have b5 : wr.cell? ⟨g, 13, none⟩ = some (Value.bool R.has) := HR.out.bk.cell 13
          clear HV1 HV2
          go_wp2_with fail
          go_quiet (fail)
          go_wp2_with fail
          go_ret2
          exact ⟨by rw [HZ.out]; rfl, HFZ.out.drewN _⟩
end Go.Proofs.Ytimfinpifngdiaa
