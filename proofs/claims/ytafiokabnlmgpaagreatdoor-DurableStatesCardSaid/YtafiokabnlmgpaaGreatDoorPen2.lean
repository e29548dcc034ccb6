/- The contracts of the pen's other calls, of slices.Clone at bytes, and of the document's own answers for numbers and texts as bytes. Conditions: lengths are short; rows are the call's own. -/
import Derived.Test.YtafiokabnlmgpaaGreatDoorPen
import Derived.Test.YtafiokabnlmgpaaGreatDoorCrashed
namespace Go.Proofs.YtafiokabnlmgpaaGreatDoor
open Go.RowKit

theorem eqnil (W : World) (A : Option Addr) (n c : Nat) : (binOp .eql 55 (.slice A n c) (.slice none 0 0)).run Tryz.prog W = .ok (.bool A.isNone) W :=
  Lib.run_eql_slice_nil W _ _ A n c 0 0 Tryz.underlying55

set_option maxRecDepth 100000 in
set_option maxHeartbeats 400000 in
theorem data_any (w : World) (base g : Nat) (v : Value) (l : List UInt8) (hp : Pen w base g v l) (hl : l.length ≤ 1000000000) :
    Calls Tryz.prog 56 #[.pointer (some ⟨g, 0, none⟩)] w fun e w' => ∃ v', e = .returned v' ∧ New w w' v' l := by
  have hc := hp.bk.cell 0
  simp only [List.getElem?_toArray, List.getElem?_cons_zero] at hc
  obtain ⟨A, c, rfl, _, hA⟩ := own_form hp.own
  have HR := Lib.hid (Rd.of_own hp.own)
  have HA := Lib.hid hA
  have HS := Lib.hid hl
  clear hp hA hl
  go_enter Tryz.func56, Tryz.ntmps56
  go_wp2_with fail
  refine (clone_any w A _ c l rfl HR.out HA.out HS.out).mono ?_
  rintro e w' ⟨v', rfl, hn⟩
  have HN := Lib.hid hn
  clear hn
  go_wp2_with fail
  go_ret
  exact ⟨v', rfl, HN.out⟩

theorem u64_div (m : Nat) (h : m < 2 ^ 64) : IntKind.u64.wrap ((m : Int) / 128) = ((m / 128 : Nat) : Int) := by
  simp only [IntKind.wrap, IntKind.bits, IntKind.signed]
  simp
  omega

theorem New.of {w w1 w2 : World} {v : Value} {l : List UInt8} (hf : Fr NoBlk w w1) (h : w2.ownsRow w.heap.size 5 1 v l.length (cb l)) {row : Option Nat} (hg : w1.grownBy w2 row) (hr : ∀ k, row = some k → w.heap.size ≤ k) : New w w2 v l :=
  ⟨h, hf.grown hg fun k hk hlt => by have := hr k hk; omega⟩

set_option maxRecDepth 100000 in
set_option maxHeartbeats 400000 in
/-- the document's own answer for a number. -/
theorem refnum_any (w : World) (n : Nat) (hn : n < 2 ^ 64) :
    Calls Tryz.prog 62 #[.int .u64 n] w fun e w' => ∃ v', e = .returned v' ∧ New w w' v' (num n) := by
  obtain ⟨i0, hi, hz0, hz1, hz2⟩ := info_parts byteInfo
  have HL := Lib.hid (num_len n hn)
  have HM := Lib.hid hn
  clear hn
  have HO := Lib.hid (World.ownsRow_made (base := w.heap.size) (e := 5) (size := 1) w #[] 0 (Nat.le_refl _) (by decide) rfl)
  go_enter Tryz.func62, Tryz.ntmps62
  go_wp2
  go_loopw [3, 4] (fun v s wr => ∃ (m : Nat) (d : List UInt8), s = .int .u64 m ∧ Hid (m < 2 ^ 64) ∧ Hid (num n = d ++ num m) ∧ Hid (New w wr v d)) (fun _ s _ => (intOf s).toNat)
  case atStart => exact ⟨n, [], rfl, HM, rfl, ⟨HO.out, (Fr.refl _ _).alloc _⟩⟩
  case round =>
    obtain ⟨m, d, rfl, hm, HN, HW⟩ := hrel
    have hdl1 : (num m).length + d.length ≤ 10 := by have := HL.out; rw [HN.out, List.length_append] at this; omega
    have hsz := HW.out.fr.size
    obtain ⟨A, c, rfl, _, _⟩ := own_form HW.out.own
    by_cases hlt : m < 128
    · have HX := Lib.hid (cb_small m (by omega))
      go_wp2_with (at_builtin; refine wpList_app rfl _ _ 55 rfl w.heap.size 5 i0 (.int .u8 0) 1 Tryz.underlying55 hi hz0 hz1 hz2 rfl _ _ _ rfl (HW.out.own.alloc _) (some ⟨wr.heap.size, 0, none⟩) 1 1 (cb [UInt8.ofNat m]) rfl rfl ?c1 (cb_one _) ?c2 ?c3 ?c4 ?c5 ?_)
      case c1 => rw [HX.out]; exact Rd.of_cells (Bk.new _ _ _)
      case c2 => intro h; cases h
      case c3 => unfold maxLen; omega
      case c4 => omega
      case c5 => simp; omega
      intro v'' w1 hown' hgrow _ hblk
      have HX1 : Hid (New w w1 v'' (num n)) := by
        unfold Hid
        rw [HN.out, num_lt hlt]
        exact New.of (HW.out.fr.alloc _) (by rw [List.length_append, cb_append]; exact hown') hgrow (fun k hk => (HW.out.own.lt k hk).1)
      clear hown' hgrow hblk
      go_wp2
      go_ret
      exact ⟨_, rfl, HX1.out⟩
    · obtain ⟨x, hx⟩ : ∃ x, x = UInt8.ofNat (m % 128 + 128) := ⟨_, rfl⟩
      have e1 : (m : Int) % 128 + 128 = (x.toNat : Int) := by rw [hx, UInt8.toNat_ofNat']; omega
      have e2 := u64_div m hm.out
      have HNN := Lib.hid (show num m = x :: num (m / 128) by rw [num_ge hlt, hx])
      clear hx
      go_wp2_with (at_builtin; refine wpList_app rfl _ _ 55 rfl w.heap.size 5 i0 (.int .u8 0) 1 Tryz.underlying55 hi hz0 hz1 hz2 rfl _ _ _ rfl (HW.out.own.alloc _) (some ⟨wr.heap.size, 0, none⟩) 1 1 (cb [x]) rfl rfl ?c1 (cb_one _) ?c2 ?c3 ?c4 ?c5 ?_)
      case c1 => exact Rd.of_cells (Bk.new _ _ _)
      case c2 => intro h; cases h
      case c3 => unfold maxLen; omega
      case c4 => omega
      case c5 => simp; omega
      intro v'' w1 hown' hgrow _ hblk
      have HX1 : Hid (New w w1 v'' (d ++ [x])) := New.of (HW.out.fr.alloc _) (by rw [List.length_append, cb_append]; exact hown') hgrow (fun k hk => (HW.out.own.lt k hk).1)
      clear hown' hgrow hblk
      go_wp2
      go_roundw
      case rel => exact ⟨m / 128, d ++ [x], by go_num, by have := hm.out; unfold Hid; omega, by unfold Hid; rw [HN.out, HNN.out]; simp, HX1⟩
      case measure => simp [intOf]; omega

end Go.Proofs.YtafiokabnlmgpaaGreatDoor
