/- great and votes. No condition but lengths. -/
import Derived.Test.YtimfinpifngdiaaOps12
import Derived.BigQuiet
import Derived.Deep.QuietTactic
namespace Go.Proofs.Ytimfinpifngdiaa
open Go.RowKit Go.Maps

def GreatPost (w : World) (xs : List LdOp) (e : Ending) (w' : World) : Prop := ∃ b, e = .returned (.bool b) ∧ (b = false → xs.length ≤ 200 ∧ ∀ x ∈ xs, x.vs.length ≤ 100) ∧ Fr NoBlk w w'
set_option maxRecDepth 100000 in
set_option maxHeartbeats 1000000 in
theorem great_any (w : World) (A : Option Addr) (c : Nat) (xs : List LdOp) (hr : Rd w A (ldos xs)) (hm : xs.length ≤ maxLen) :
    Calls Try.prog 9 #[.slice A xs.length c] w fun e w' => GreatPost w xs e w' := by
  have HR := Lib.hid hr
  have HM := Lib.hid hm
  unfold maxLen at hm
  clear hr
  go_enter Try.func9, Try.ntmps9
  by_cases h200 : 200 < xs.length
  · go_wp2_with fail
    go_ret
    exact ⟨true, rfl, (fun h => by cases h), Fr.refl _ _⟩
  have H200 : Hid (xs.length ≤ 200) := by show _ ≤ _; omega
  go_wp2_with fail
  go_loopw [10] (fun s wr => ∃ i : Nat, i ≤ xs.length ∧ s = .int .i64 i ∧ Hid (Fr NoBlk w wr ∧ ∀ (j : Nat) (x : LdOp), j < i → xs[j]? = some x → x.vs.length ≤ 100)) (fun s _ => xs.length - (intOf s).toNat)
  case atStart => exact ⟨0, Nat.zero_le _, rfl, Fr.refl _ _, fun j x h => absurd h (by omega)⟩
  case round =>
    obtain ⟨k, hk, rfl, HX⟩ := hrel
    by_cases hlt : k < xs.length
    · obtain ⟨x, hx⟩ : ∃ x, xs[k]? = some x := ⟨_, List.getElem?_eq_getElem hlt⟩
      obtain ⟨b, o, rfl, d0, d1, d2, d3, d4⟩ := (HR.out.nofr HX.out.1).ldop hx
      have HXX := Lib.hid hx
      clear hx
      obtain ⟨xk, xv, xsl, xA, xc, xvs, xval⟩ := x
      obtain ⟨w5, hw5⟩ : ∃ w5, w5 = wr.alloc (.cells (ldoa ⟨xk, xv, xsl, xA, xc, xvs, xval⟩) 34) := ⟨_, rfl⟩
      have HF5 : Hid (Fr NoBlk w w5) := by show Fr _ _ _; rw [hw5]; exact HX.out.1.alloc _
      unfold ldoa at hw5
      obtain ⟨m, hmm⟩ : ∃ m, m = xvs.length := ⟨_, rfl⟩
      have HMM := Lib.hid hmm
      dsimp only at d0 d1 d2 d3 d4 hw5
      rw [← hmm] at d3 hw5
      clear hmm
      have hwr : IntKind.i64.wrap ((k : Int) + 1) = (k : Int) + 1 := IntWalk.i64_in _ (by omega)
      by_cases h100 : 100 < m
      · go_wp2_with fail
        rw [← hw5]
        go_ret
        exact ⟨true, rfl, (fun h => by cases h), HF5.out⟩
      · have HQ : Hid (∀ (j : Nat) (x : LdOp), j < k + 1 → xs[j]? = some x → x.vs.length ≤ 100) := fun j x hj hx => by
          rcases Nat.lt_succ_iff_lt_or_eq.1 hj with e | e
          · exact HX.out.2 j x e hx
          · subst e
            rw [HXX.out] at hx
            injection hx with hx
            subst hx
            show xvs.length ≤ 100
            have := HMM.out
            omega
        go_wp2_with fail
        rw [← hw5]
        go_roundw
        case rel => exact ⟨k + 1, by omega, by go_num, HF5.out, HQ.out⟩
        case measure => simp [intOf]; omega
    · have he : k = xs.length := by omega
      have HZ : Hid (∀ x ∈ xs, x.vs.length ≤ 100) := fun x hx => by
        obtain ⟨j, hj, e⟩ := List.mem_iff_getElem.1 hx
        exact HX.out.2 j x (by omega) (by rw [List.getElem?_eq_getElem hj, e])
      go_wp2_with fail
      go_ret
      exact ⟨false, rfl, fun _ => ⟨H200.out, HZ.out⟩, HX.out.1⟩

theorem avoteInfo : (Try.prog.info? 40).map (fun i => (i.zero, i.size, i.bytes)) = some (some (.agg #[.int .i64 0, .int .u64 0, .string ByteArray.empty]), 3, 32) := by kernel_rfl
theorem vtsS_get_one (v : VtS) : vtsS [v] = [.int .i64 v.1, .int .u64 (v.2.1 : Int), .string v.2.2] := rfl
set_option maxRecDepth 100000 in
set_option maxHeartbeats 2000000 in
theorem votes_any (w : World) (A : Option Addr) (c : Nat) (vs : List VtS) (hr : Rd w A (vtsS vs)) (hm : vs.length ≤ 100) :
    Calls Try.prog 12 #[.slice A vs.length c] w fun e w' => ∃ A' c', e = .returned (.slice A' vs.length c') ∧ w'.ownsRow w.heap.size 40 3 (.slice A' vs.length c') vs.length (vtsS vs) ∧ Fr NoBlk w w' := by
  obtain ⟨i0, hi, hz0, hz1, hz2⟩ := info_partsD avoteInfo
  have HR := Lib.hid hr
  have HM := Lib.hid hm
  clear hr
  have HO0 : Hid ((w.alloc (.cells #[] 40)).ownsRow w.heap.size 40 3 (.slice (some ⟨w.heap.size, 0, none⟩) 0 0) 0 []) := own_litW 3 (Bk.new _ _ _) (Nat.le_refl _)
  have HF0 : Hid (Fr NoBlk w (w.alloc (.cells #[] 40))) := (Fr.refl _ _).alloc _
  go_enter Try.func12, Try.ntmps12
  go_wp2_with fail
  go_loopw [3, 9] (fun out i wr => ∃ (k : Nat) (A' : Option Addr) (c' : Nat), k ≤ vs.length ∧ out = .slice A' k c' ∧ i = .int .i64 k ∧ Hid (Fr NoBlk w wr ∧ wr.ownsRow w.heap.size 40 3 (.slice A' k c') k (vtsS (vs.take k)))) (fun _ i _ => vs.length - (intOf i).toNat)
  case atStart => exact ⟨0, _, _, Nat.zero_le _, rfl, rfl, HF0.out, HO0.out⟩
  case round =>
    obtain ⟨k, A', c', hk, rfl, rfl, HX⟩ := hrel
    by_cases hlt : k < vs.length
    · obtain ⟨v, hv⟩ : ∃ v, vs[k]? = some v := ⟨_, List.getElem?_eq_getElem hlt⟩
      obtain ⟨b0, o0, rfl, d0, d1, d2⟩ := Rd.vtS (HR.out.nofr HX.out.1) hv
      have HNX : Hid (vtsS (vs.take (k + 1)) = vtsS (vs.take k) ++ vtsS [v]) := by
        show _ = _
        rw [List.take_add_one, hv, vtsS_append]
        rfl
      obtain ⟨vx, vb, vv⟩ := v
      unfold evS at d2
      dsimp only at d0 d1 d2
      rw [vtsS_get_one] at HNX
      dsimp only at HNX
      obtain ⟨w5, hw5⟩ : ∃ w5, w5 = (wr.alloc (.cells #[.int .i64 vx, .int .u64 (vb : Int), .string vv] 86)) := ⟨_, rfl⟩
      have HF5 : Hid (Fr NoBlk wr w5) := by show Fr _ _ _; rw [hw5]; exact (Fr.refl _ _).alloc _
      obtain ⟨xb, hxb⟩ : ∃ xb, xb = wr.heap.size := ⟨_, rfl⟩
      have HXB : Hid (Bk w5 xb 86 #[.int .i64 vx, .int .u64 (vb : Int), .string vv]) := by show Bk _ _ _ _; rw [hw5, hxb]; exact Bk.new _ _ _
      have e0 : w5.cell? ⟨xb, 0, none⟩ = some (.int .i64 vx) := HXB.out.cell 0
      have e1 : w5.cell? ⟨xb, 1, none⟩ = some (.int .u64 (vb : Int)) := HXB.out.cell 1
      have e2 : w5.cell? ⟨xb, 2, none⟩ = some (.string vv) := HXB.out.cell 2
      have HO6 : Hid ((w5.alloc (.cells #[.int .i64 vx, .int .u64 (vb : Int), .string vv] 40)).ownsRow w.heap.size 40 3 (.slice A' k c') k (vtsS (vs.take k))) := own_fr HX.out.2 (HF5.out.alloc _) fun _ _ h => h
      have HF6 : Hid (Fr NoBlk w (w5.alloc (.cells #[.int .i64 vx, .int .u64 (vb : Int), .string vv] 40))) := (HX.out.1.trans HF5.out).alloc _
      have HS6 : Hid (Rd (w5.alloc (.cells #[.int .i64 vx, .int .u64 (vb : Int), .string vv] 40)) (some ⟨wr.heap.size + 1, 0, none⟩) [.int .i64 vx, .int .u64 (vb : Int), .string vv]) := by
        rw [show wr.heap.size + 1 = w5.heap.size by rw [hw5, World.size_alloc]]
        exact Rd.of_cells (Bk.new w5 40 #[.int .i64 vx, .int .u64 (vb : Int), .string vv])
      have hwr : IntKind.i64.wrap ((k : Int) + 1) = (k : Int) + 1 := IntWalk.i64_in _ (by omega)
      have HK : Hid (k < 100) := by show _ < _; omega
      go_wp2_with (first | (at_builtin; rw [← hw5]; go_loud (refine wpList_appW rfl _ _ 35 rfl w.heap.size 40 i0 _ 3 32 Try.underlying35 hi hz0 hz1 hz2 rfl (by decide) (.slice A' k c') k (vtsS (vs.take k)) rfl HO6.out (some ⟨wr.heap.size + 1, 0, none⟩) 1 1 [.int .i64 vx, .int .u64 (vb : Int), .string vv] rfl rfl HS6.out (vtsS_one [(vx, vb, vv)]) (fun h => by cases h) (by unfold maxLen; have := HK.out; omega) (by have := HK.out; omega) HF6.out.size ?_); intro v7 w7 ho7 hg7 hb7; rw [← HNX.out] at ho7; obtain ⟨A7, c7, rfl, hc7, hA7⟩ := own_form ho7; have HO7 := Lib.hid ho7; have HF7 := Lib.hid (grown_no HF6.out HO6.out hg7); clear ho7 hg7 hb7 hA7) | fail)
      go_roundw
      case rel => exact ⟨k + 1, A7, c7, by have := HK.out; omega, rfl, by go_num, HF7.out, HO7.out⟩
      case measure => simp [intOf]; omega
    · obtain rfl : k = vs.length := by omega
      have HZ := HX
      rw [List.take_length] at HZ
      clear HX
      go_wp2_with fail
      go_ret
      exact ⟨A', c', rfl, HZ.out.2, HZ.out.1⟩
end Go.Proofs.Ytimfinpifngdiaa
