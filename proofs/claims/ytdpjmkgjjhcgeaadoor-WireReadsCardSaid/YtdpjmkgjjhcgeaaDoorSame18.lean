/- The law's comparison of messages. No condition but lengths. -/
import Derived.Test.YtdpjmkgjjhcgeaaDoorOf18
import Derived.BigRegion
namespace Go.Proofs.YtdpjmkgjjhcgeaaDoor
open Go.RowKit

def vtv (m : Vt) : Value := .agg #[.int .i64 m.slot, .int .u64 (m.ballot : Int), .string (bstr m.value)]
def vtSame (x y : Vt) : Bool := decide (x.slot = y.slot) && (decide (x.ballot = y.ballot) && (x.value == y.value))
theorem vtSame_iff (x y : Vt) : vtSame x y = true ↔ x = y := by
  unfold vtSame
  simp only [Bool.and_eq_true, decide_eq_true_eq, beq_iff_eq]
  constructor
  · rintro ⟨h1, h2, h3⟩
    cases x; cases y
    simp only at h1 h2 h3
    subst h1 h2 h3
    rfl
  · rintro rfl
    exact ⟨rfl, rfl, rfl⟩
theorem neqVt (x y : Vt) (w : World) : (binOp .neq 62 (vtv x) (vtv y)).run Tryd.prog w = .ok (.bool (!vtSame x y)) w := by
  have u1 := Tryd.underlying3
  have a1 := Tryd.isAgg3
  have z1 := Tryd.sizeOf3
  have u2 := Tryd.underlying23
  have a2 := Tryd.isAgg23
  have z2 := Tryd.sizeOf23
  have u3 := Tryd.underlying9
  have a3 := Tryd.isAgg9
  have z3 := Tryd.sizeOf9
  have hS : Tryd.prog.underlying 62 = some (.struct (Tryd.prog.fieldsOf 62)) := by kernel_rfl
  have hp : Tryd.prog.stoodInHeld 62 = false := by kernel_rfl
  have e1 := bstr_toList x.value
  have e2 := bstr_toList y.value
  unfold vtv vtSame
  rw [run_neq_struct, show (10000 : Nat) = 9999 + 1 from rfl, run_equalIn_agg w 9999 62 _ _ hS hp]
  simp only [Program.fieldsOf, Tryd.underlying62]
  go_simp
  by_cases h1 : x.slot = y.slot <;> by_cases h2 : x.ballot = y.ballot <;> by_cases h3 : x.value = y.value <;> first | (simp [h1, h2, h3]; done) | (simp [h1, h2, h3]; omega) | (simp [h1, h2, h3]; intros; omega)

def SamePost (a b : Mg) (e : Ending) : Prop := ∃ d, e = .returned (.bool d) ∧ (d = true ↔ MLike a b)
theorem SamePost.no {a b : Mg} (h : ¬ MLike a b) : SamePost a b (.returned (.bool false)) := ⟨false, rfl, ⟨fun q => (by cases q), fun k => absurd k h⟩⟩

set_option maxRecDepth 100000 in
set_option maxHeartbeats 8000000 in
theorem same_any (w : World) (a b : Mg) (ha : MgIn w a) (hb : MgIn w b) :
    Calls Tryd.prog 15 #[mgv a, mgv b] w fun e w' => SamePost a b e ∧ Fr NoBlk w w' := by
  obtain ⟨w2, hw2⟩ : ∃ w2, w2 = (w.alloc (.cells (mga a) 36)).alloc (.cells (mga b) 36) := ⟨_, rfl⟩
  have HF : Hid (Fr NoBlk w w2) := by
    show Fr _ _ _
    rw [hw2]
    exact ((Fr.refl _ _).alloc _).alloc _
  have hba : Bk w2 w.heap.size 36 (mga a) := by rw [hw2]; exact (Bk.new w _ _).alloc _
  have hbb : Bk w2 (w.heap.size + 1) 36 (mga b) := by rw [hw2]; exact Bk.new' _ _ _ (by simp)
  obtain ⟨c0, c1, c2, c3, c4, c5, c6, c7⟩ := hba.msg
  obtain ⟨d0, d1, d2, d3, d4, d5, d6, d7⟩ := hbb.msg
  have HA := Lib.hid (ha.nofr HF.out)
  have HB := Lib.hid (hb.nofr HF.out)
  have hla : a.votes.length ≤ 9223372036854775807 := Nat.le_trans ha.vl.1 ha.vl.2.1
  have hlb : b.votes.length ≤ 9223372036854775807 := Nat.le_trans hb.vl.1 hb.vl.2.1
  have HN : Hid (SamePost a b = fun e => ∃ d, e = .returned (.bool d) ∧ (d = true ↔ MLike a b)) := rfl
  clear ha hb hba hbb
  unfold mgv mga at *
  by_cases h_kind : a.kind = b.kind
  rotate_left
  · have g_kind : (a.kind != b.kind) = true := by simp [h_kind]
    have HNO : Hid (¬ MLike a b) := fun h => h_kind h.kind
    clear h_kind
    go_enter Tryd.func15, Tryd.ntmps15
    go_wp2_with fail
    rw [← hw2]
    clear hw2
    go_wp2_with fail
    go_ret
    exact ⟨SamePost.no HNO.out, HF.out⟩
  have g_kind : (a.kind != b.kind) = false := by simp [h_kind]
  have HE_kind := Lib.hid h_kind
  clear h_kind
  by_cases h_frm : a.frm = b.frm
  rotate_left
  · have g_frm : (a.frm != b.frm) = true := by simp [h_frm]
    have HNO : Hid (¬ MLike a b) := fun h => h_frm h.frm
    clear h_frm
    go_enter Tryd.func15, Tryd.ntmps15
    go_wp2_with fail
    rw [← hw2]
    clear hw2
    go_wp2_with fail
    go_ret
    exact ⟨SamePost.no HNO.out, HF.out⟩
  have g_frm : (a.frm != b.frm) = false := by simp [h_frm]
  have HE_frm := Lib.hid h_frm
  clear h_frm
  by_cases h_dst : a.dst = b.dst
  rotate_left
  · have g_dst : (a.dst != b.dst) = true := by simp [h_dst]
    have HNO : Hid (¬ MLike a b) := fun h => h_dst h.dst
    clear h_dst
    go_enter Tryd.func15, Tryd.ntmps15
    go_wp2_with fail
    rw [← hw2]
    clear hw2
    go_wp2_with fail
    go_ret
    exact ⟨SamePost.no HNO.out, HF.out⟩
  have g_dst : (a.dst != b.dst) = false := by simp [h_dst]
  have HE_dst := Lib.hid h_dst
  clear h_dst
  by_cases h_grp : a.grp = b.grp
  rotate_left
  · have g_grp : (a.grp != b.grp) = true := by simp [h_grp]
    have HNO : Hid (¬ MLike a b) := fun h => h_grp h.grp
    clear h_grp
    go_enter Tryd.func15, Tryd.ntmps15
    go_wp2_with fail
    rw [← hw2]
    clear hw2
    go_wp2_with fail
    go_ret
    exact ⟨SamePost.no HNO.out, HF.out⟩
  have g_grp : (a.grp != b.grp) = false := by simp [h_grp]
  have HE_grp := Lib.hid h_grp
  clear h_grp
  by_cases h_slot : a.slot = b.slot
  rotate_left
  · have g_slot : (a.slot != b.slot) = true := by simp [h_slot]
    have HNO : Hid (¬ MLike a b) := fun h => h_slot h.slot
    clear h_slot
    go_enter Tryd.func15, Tryd.ntmps15
    go_wp2_with fail
    rw [← hw2]
    clear hw2
    go_wp2_with fail
    go_ret
    exact ⟨SamePost.no HNO.out, HF.out⟩
  have g_slot : (a.slot != b.slot) = false := by simp [h_slot]
  have HE_slot := Lib.hid h_slot
  clear h_slot
  by_cases h_ballot : a.ballot = b.ballot
  rotate_left
  · have g_ballot : ((a.ballot : Int) != (b.ballot : Int)) = true := by simp; omega
    have HNO : Hid (¬ MLike a b) := fun h => h_ballot h.ballot
    clear h_ballot
    go_enter Tryd.func15, Tryd.ntmps15
    go_wp2_with fail
    rw [← hw2]
    clear hw2
    go_wp2_with fail
    go_ret
    exact ⟨SamePost.no HNO.out, HF.out⟩
  have g_ballot : ((a.ballot : Int) != (b.ballot : Int)) = false := by simp [h_ballot]
  have HE_ballot := Lib.hid h_ballot
  clear h_ballot
  by_cases h_value : a.value = b.value
  rotate_left
  · have g_value : ((bstr a.value).toList != (bstr b.value).toList) = true := by rw [bstr_toList, bstr_toList]; simp [h_value]
    have HNO : Hid (¬ MLike a b) := fun h => h_value h.value
    clear h_value
    have g2_value : (((bstr a.value).toList == (bstr b.value).toList) = false) := by have h := g_value; simpa using h
    go_enter Tryd.func15, Tryd.ntmps15
    go_wp2_with fail
    rw [← hw2]
    clear hw2
    go_wp2_with fail
    go_ret
    exact ⟨SamePost.no HNO.out, HF.out⟩
  have g_value : ((bstr a.value).toList != (bstr b.value).toList) = false := by rw [h_value]; simp
  have g2_value : ((bstr a.value).toList == (bstr b.value).toList) = true := by have h := g_value; simpa using h
  have HE_value := Lib.hid h_value
  clear h_value
  have HEQ : Hid (a.kind = b.kind ∧ a.frm = b.frm ∧ a.dst = b.dst ∧ a.grp = b.grp ∧ a.slot = b.slot ∧ a.ballot = b.ballot ∧ a.value = b.value) := ⟨HE_kind.out, HE_frm.out, HE_dst.out, HE_grp.out, HE_slot.out, HE_ballot.out, HE_value.out⟩
  clear HE_kind HE_frm HE_dst HE_grp HE_slot HE_ballot HE_value
  by_cases hl : a.votes.length = b.votes.length
  rotate_left
  · have HNO : Hid (¬ MLike a b) := fun h => hl (by rw [h.votes])
    have hb2 : ((a.votes.length : Int) != (b.votes.length : Int)) = true := by simp; omega
    clear hl
    go_enter Tryd.func15, Tryd.ntmps15
    go_wp2_with fail
    rw [← hw2]
    clear hw2
    go_wp2_with fail
    go_ret
    exact ⟨SamePost.no HNO.out, HF.out⟩
  have HLN := Lib.hid hl
  obtain ⟨la, hla'⟩ : ∃ la, la = a.votes.length := ⟨_, rfl⟩
  have hbl : b.votes.length = la := by rw [hla', hl]
  have HLA := Lib.hid hla'
  rw [hbl] at d7 hw2 ⊢
  rw [← hla'] at c7 hw2 hla ⊢
  clear hl hla' hbl hlb
  go_enter Tryd.func15, Tryd.ntmps15
  go_wp2_with fail
  rw [← hw2]
  clear hw2
  go_wp2_with fail
  have HC7 := Lib.hid c7
  have HD7 := Lib.hid d7
  clear c0 c1 c2 c3 c4 c5 c6 c7 d0 d1 d2 d3 d4 d5 d6 d7
  go_loopw [5] (fun s wr => ∃ k : Nat, k ≤ la ∧ s = .int .i64 k ∧ Hid (a.votes.take k = b.votes.take k) ∧ Hid (wr.cell? ⟨w.heap.size, 7, none⟩ = some (.slice a.va la a.vc)) ∧ Hid (wr.cell? ⟨w.heap.size + 1, 7, none⟩ = some (.slice b.va la b.vc)) ∧ Hid (Fr NoBlk w2 wr)) (fun s _ => la - (intOf s).toNat)
  case atStart => exact ⟨0, by omega, rfl, by show _ = _; simp, HC7, HD7, Fr.refl _ _⟩
  case round =>
    obtain ⟨k, hk, rfl, HT, HR7, HS7, HFR⟩ := hrel
    have c7 := HR7.out
    have d7 := HS7.out
    by_cases hlt : k < la
    · obtain ⟨x, hx⟩ : ∃ x, a.votes[k]? = some x := ⟨_, List.getElem?_eq_getElem (by rw [← HLA.out]; exact hlt)⟩
      obtain ⟨y, hy⟩ : ∃ y, b.votes[k]? = some y := ⟨_, List.getElem?_eq_getElem (by rw [← HLN.out, ← HLA.out]; exact hlt)⟩
      obtain ⟨p, p', hAa, x0, x1, x2⟩ := (HA.out.votes.nofr HFR.out).vote hx
      obtain ⟨q, q', hAb, y0, y1, y2⟩ := (HB.out.votes.nofr HFR.out).vote hy
      have HXY := Lib.hid (And.intro hx hy)
      rw [hAa] at c7
      rw [hAb] at d7
      have hne := fun w => neqVt x y w
      unfold vtv at hne
      obtain ⟨dd, hd⟩ : ∃ dd, vtSame x y = dd := ⟨_, rfl⟩
      have HD := Lib.hid hd
      rw [hd] at hne
      clear hAa hAb hx hy hd
      cases dd
      · have HNO : Hid (¬ MLike a b) := fun h => by
          have h1 := HXY.out.1
          rw [h.votes, HXY.out.2] at h1
          injection h1 with h1
          have := HD.out
          rw [(vtSame_iff x y).2 h1.symm] at this
          cases this
        go_upto_region 6 with fail
        go_quiet (fail)
        go_wp2_with fail
        go_ret
        exact ⟨SamePost.no HNO.out, HF.out.trans (HFR.out.drewN _)⟩
      · have HT1 : Hid (a.votes.take (k + 1) = b.votes.take (k + 1)) := by
          obtain ⟨hk1, e1⟩ := List.getElem?_eq_some_iff.1 HXY.out.1
          obtain ⟨hk2, e2⟩ := List.getElem?_eq_some_iff.1 HXY.out.2
          show _ = _
          rw [List.take_succ_eq_append_getElem hk1, List.take_succ_eq_append_getElem hk2, HT.out, e1, e2, (vtSame_iff x y).1 HD.out]
        go_upto_region 6 with fail
        go_quiet (fail)
        go_wp2_with fail
        go_roundw
        case rel => exact ⟨k + 1, by omega, by go_num, HT1, HR7, HS7, HFR.out.drewN _⟩
        case measure => simp [intOf]; omega
    · have HE : Hid (MLike a b) := by
        have h1 := HT.out
        rw [List.take_of_length_le (by rw [← HLA.out]; omega), List.take_of_length_le (by rw [← HLN.out, ← HLA.out]; omega)] at h1
        obtain ⟨e1, e2, e3, e4, e5, e6, e7⟩ := HEQ.out
        exact ⟨e1, e2, e3, e4, e5, e6, e7, h1⟩
      go_wp2_with fail
      go_ret
      exact ⟨⟨true, rfl, ⟨fun _ => HE.out, fun _ => rfl⟩⟩, HF.out.trans HFR.out⟩
end Go.Proofs.YtdpjmkgjjhcgeaaDoor
