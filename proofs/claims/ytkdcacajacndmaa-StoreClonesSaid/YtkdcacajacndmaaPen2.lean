/- The contracts of the pen's other calls, of slices.Clone at bytes, and of the document's own answers for numbers and texts as bytes. Conditions: lengths are short; rows are the call's own. -/
import Derived.Test.YtkdcacajacndmaaPen
namespace Go.Proofs.Ytkdcacajacndmaa
open Go.RowKit

theorem eqnil (W : World) (A : Option Addr) (n c : Nat) : (binOp .eql 31 (.slice A n c) (.slice none 0 0)).run Try.prog W = .ok (.bool A.isNone) W :=
  Lib.run_eql_slice_nil W _ _ A n c 0 0 Try.underlying31

/-- what a call hands back that lies in new memory. -/
structure New (w w' : World) (v : Value) (l : List UInt8) : Prop where
  own : w'.ownsRow w.heap.size 5 1 v l.length (cb l)
  fr : Fr NoBlk w w'

set_option maxRecDepth 100000 in
set_option maxHeartbeats 400000 in
theorem clone_any (w : World) (A : Option Addr) (n c : Nat) (l : List UInt8) (hn : n = l.length) (hr : Rd w A (cb l)) (hA : A = none → c = 0) (hl : l.length ≤ 1000000000) :
    Calls Try.prog 57 #[.slice A n c] w fun e w' => ∃ v', e = .returned v' ∧ New w w' v' l := by
  obtain ⟨i0, hi, hz0, hz1, hz2⟩ := info_parts byteInfo
  subst hn
  rcases A with _ | ad
  · have hl0 : l = [] := by
      rcases Nat.eq_zero_or_pos l.length with h0 | h0
      · exact List.eq_nil_of_length_eq_zero h0
      · obtain ⟨_, _, h, _⟩ := hr (by rw [cb_length]; exact h0)
        cases h
    subst hl0
    obtain rfl := hA rfl
    have q := eqnil w none 0 0
    clear hr hA hl
    simp only [List.length_nil]
    go_enter Try.func57, Try.ntmps57
    go_wp2
    go_ret
    exact ⟨_, rfl, World.ownsRow_nil _ _ _ _, Fr.refl _ _⟩
  · clear hA
    have HR := Lib.hid hr
    have HS := Lib.hid hl
    have q := eqnil w (some ad) l.length c
    clear hr hl
    go_enter Try.func57, Try.ntmps57
    go_wp2_with (at_builtin; refine wpList_app rfl _ _ 31 rfl w.heap.size 5 i0 (.int .u8 0) 1 Try.underlying31 hi hz0 hz1 hz2 rfl _ 0 [] rfl (World.ownsRow_made w #[] 0 (Nat.le_refl _) (by decide) rfl) (some ad) c l.length (cb l) rfl (cb_length l) ?c1 (cb_one _) ?c2 ?c3 ?c4 ?c5 ?_)
    case c1 => exact HR.out.alloc _
    case c2 => intro h; cases h
    case c3 => have := HS.out; unfold maxLen; omega
    case c4 => have := HS.out; omega
    case c5 => simp
    intro v' w1 hown' hgrow _ hblk
    have HX : Hid (New w w1 v' l) := ⟨by simpa using hown', ((Fr.refl _ _).alloc _).grown hgrow (fun k hk hlt => by simp [Value.ownBlock] at hk; omega)⟩
    clear hown' hgrow hblk
    go_wp2
    go_ret
    exact ⟨v', rfl, HX.out⟩


set_option maxRecDepth 100000 in
set_option maxHeartbeats 400000 in
theorem data_any (w : World) (base g : Nat) (v : Value) (l : List UInt8) (hp : Pen w base g v l) (hl : l.length ≤ 1000000000) :
    Calls Try.prog 45 #[.pointer (some ⟨g, 0, none⟩)] w fun e w' => ∃ v', e = .returned v' ∧ New w w' v' l := by
  have hc := hp.bk.cell 0
  simp only [List.getElem?_toArray, List.getElem?_cons_zero] at hc
  obtain ⟨A, c, rfl, _, hA⟩ := own_form hp.own
  have HR := Lib.hid (Rd.of_own hp.own)
  have HA := Lib.hid hA
  have HS := Lib.hid hl
  clear hp hA hl
  go_enter Try.func45, Try.ntmps45
  go_wp2_with fail
  refine (clone_any w A _ c l rfl HR.out HA.out HS.out).mono ?_
  rintro e w' ⟨v', rfl, hn⟩
  have HN := Lib.hid hn
  clear hn
  go_wp2_with fail
  go_ret
  exact ⟨v', rfl, HN.out⟩

set_option maxRecDepth 100000 in
set_option maxHeartbeats 400000 in
theorem byte_any (w : World) (base g : Nat) (x : UInt8) (v : Value) (l : List UInt8) (hp : Pen w base g v l) (hb : base ≤ w.heap.size) (hl : l.length ≤ 1000000000) :
    Calls Try.prog 43 #[.pointer (some ⟨g, 0, none⟩), .int .u8 (x.toNat : Int)] w fun e w' => e = .returned (.tuple #[]) ∧ ∃ v', Wro w w' base g v v' (l ++ [x]) := by
  obtain ⟨i0, hi, hz0, hz1, hz2⟩ := info_parts byteInfo
  have hc := hp.bk.cell 0
  have hf := hp.bk.free 0
  simp only [List.getElem?_toArray, List.getElem?_cons_zero] at hc
  have HP := Lib.hid hp
  have HS := Lib.hid hl
  clear hp hl
  go_enter Try.func43, Try.ntmps43
  go_wp2_with (at_builtin; refine wpList_app rfl _ _ 31 rfl base 5 i0 (.int .u8 0) 1 Try.underlying31 hi hz0 hz1 hz2 rfl _ _ _ rfl (HP.out.own.alloc _) (some ⟨w.heap.size, 0, none⟩) 1 1 (cb [x]) rfl rfl ?c1 (cb_one _) ?c2 ?c3 ?c4 ?c5 ?_)
  case c1 => exact Rd.of_cells (Bk.new _ _ _)
  case c2 => intro h; cases h
  case c3 => have := HS.out; unfold maxLen; omega
  case c4 => have := HS.out; omega
  case c5 => simp; omega
  intro v'' w1 hown' hgrow _ hblk
  obtain ⟨A2, c2, rfl, _, _⟩ := own_form hown'
  have HX1 := Lib.hid (Wro.push (m := 1) (d := [x]) HP.out ((Fr.refl _ _).alloc _) hown' hgrow (by simpa using hblk) rfl)
  clear hown' hgrow hblk hc hf
  have hc1 : w1.cell? ⟨g, 0, none⟩ = some v := HX1.out.1.cell 0
  have hf1 := HX1.out.1.free 0
  go_wp2
  go_end0
  exact ⟨rfl, _, HX1.out.2⟩

set_option maxRecDepth 100000 in
set_option maxHeartbeats 400000 in
theorem text_any (w : World) (base g : Nat) (A : Option Addr) (n c : Nat) (t : List UInt8) (v : Value) (l : List UInt8) (hp : Pen w base g v l) (hb : base ≤ w.heap.size) (hn : n = t.length) (hr : Rd w A (cb t)) (hA : A = none → c = 0)
    (hs : 0 < t.length → ∀ k, ablk A k → k ≠ g ∧ some k ≠ v.ownBlock) (ht : t.length ≤ 100000000) (hl : l.length ≤ 100000000) :
    Calls Try.prog 42 #[.pointer (some ⟨g, 0, none⟩), .slice A n c] w fun e w' => e = .returned (.tuple #[]) ∧ ∃ v', Wro w w' base g v v' (l ++ (num t.length ++ t)) := by
  obtain ⟨i0, hi, hz0, hz1, hz2⟩ := info_parts byteInfo
  subst hn
  have HP := Lib.hid hp
  have HS := Lib.hid hl
  have HT := Lib.hid ht
  have HR := Lib.hid hr
  have HA := Lib.hid hA
  have HSep := Lib.hid hs
  have HN := Lib.hid (num_len t.length (by omega))
  clear hp hl ht hr hA hs
  have hwr : ((t.length : Int) % 18446744073709551616) = (t.length : Int) := by have := HT.out; omega
  go_enter Try.func42, Try.ntmps42
  go_wp2_with fail
  refine (num_any w base g t.length v l HP.out hb (by have := HT.out; omega) (by have := HS.out; omega)).mono ?_
  rintro e w1 ⟨rfl, v1, hw1⟩
  have hc := hw1.pen.bk.cell 0
  have hf := hw1.pen.bk.free 0
  simp only [List.getElem?_toArray, List.getElem?_cons_zero] at hc
  have hb1 : base ≤ w1.heap.size := Nat.le_trans hb hw1.fr.size
  have HR1 := Lib.hid (HR.out.fr' hw1.fr (by
    intro hx k hk
    have := HSep.out (by rwa [cb_length] at hx) k hk
    rintro (e | e)
    · exact this.1 e
    · exact this.2 e))
  have HW := Lib.hid hw1
  clear hw1
  go_wp2_with (at_builtin; refine wpList_app rfl _ _ 31 rfl base 5 i0 (.int .u8 0) 1 Try.underlying31 hi hz0 hz1 hz2 rfl _ _ _ rfl HW.out.pen.own A c t.length (cb t) rfl (cb_length t) ?c1 (cb_one _) ?c2 ?c3 ?c4 ?c5 ?_)
  case c1 => exact HR1.out
  case c2 => exact HA.out
  case c3 => have := HS.out; have := HT.out; have := HN.out; rw [List.length_append]; unfold maxLen; omega
  case c4 => have := HS.out; have := HT.out; have := HN.out; rw [List.length_append]; omega
  case c5 => omega
  intro v'' w2 hown' hgrow _ hblk
  obtain ⟨A2, c2, rfl, _, _⟩ := own_form hown'
  have HX1 := Lib.hid (Wro.push (m := t.length) (d := t) HW.out.pen (Fr.refl _ _) (by rw [List.length_append]; exact hown') hgrow (by simpa using hblk) rfl)
  clear hown' hgrow hblk hc hf
  have hc1 : w2.cell? ⟨g, 0, none⟩ = some v1 := HX1.out.1.cell 0
  have hf1 := HX1.out.1.free 0
  go_wp2
  go_end0
  exact ⟨rfl, _, by rw [← List.append_assoc]; exact HW.out.trans HX1.out.2⟩

theorem u64_div (m : Nat) (h : m < 2 ^ 64) : IntKind.u64.wrap ((m : Int) / 128) = ((m / 128 : Nat) : Int) := by
  simp only [IntKind.wrap, IntKind.bits, IntKind.signed]
  simp
  omega

theorem New.of {w w1 w2 : World} {v : Value} {l : List UInt8} (hf : Fr NoBlk w w1) (h : w2.ownsRow w.heap.size 5 1 v l.length (cb l)) {row : Option Nat} (hg : w1.grownBy w2 row) (hr : ∀ k, row = some k → w.heap.size ≤ k) : New w w2 v l :=
  ⟨h, hf.grown hg fun k hk hlt => by have := hr k hk; omega⟩

set_option maxRecDepth 100000 in
set_option maxHeartbeats 400000 in
/-- the document's own answer for a number. -/
theorem refnum_any (w : World) (n : Nat) (hn : n < 2 ^ 64) :
    Calls Try.prog 46 #[.int .u64 n] w fun e w' => ∃ v', e = .returned v' ∧ New w w' v' (num n) := by
  obtain ⟨i0, hi, hz0, hz1, hz2⟩ := info_parts byteInfo
  have HL := Lib.hid (num_len n hn)
  have HM := Lib.hid hn
  clear hn
  have HO := Lib.hid (World.ownsRow_made (base := w.heap.size) (e := 5) (size := 1) w #[] 0 (Nat.le_refl _) (by decide) rfl)
  go_enter Try.func46, Try.ntmps46
  go_wp2
  go_loopw [3, 4] (fun v s wr => ∃ (m : Nat) (d : List UInt8), s = .int .u64 m ∧ Hid (m < 2 ^ 64) ∧ Hid (num n = d ++ num m) ∧ Hid (New w wr v d)) (fun _ s _ => (intOf s).toNat)
  case atStart => exact ⟨n, [], rfl, HM, rfl, ⟨HO.out, (Fr.refl _ _).alloc _⟩⟩
  case round =>
    obtain ⟨m, d, rfl, hm, HN, HW⟩ := hrel
    have hdl1 : (num m).length + d.length ≤ 10 := by have := HL.out; rw [HN.out, List.length_append] at this; omega
    have hsz := HW.out.fr.size
    obtain ⟨A, c, rfl, _, _⟩ := own_form HW.out.own
    by_cases hlt : m < 128
    · have HX := Lib.hid (cb_small m (by omega))
      go_wp2_with (at_builtin; refine wpList_app rfl _ _ 31 rfl w.heap.size 5 i0 (.int .u8 0) 1 Try.underlying31 hi hz0 hz1 hz2 rfl _ _ _ rfl (HW.out.own.alloc _) (some ⟨wr.heap.size, 0, none⟩) 1 1 (cb [UInt8.ofNat m]) rfl rfl ?c1 (cb_one _) ?c2 ?c3 ?c4 ?c5 ?_)
      case c1 => rw [HX.out]; exact Rd.of_cells (Bk.new _ _ _)
      case c2 => intro h; cases h
      case c3 => unfold maxLen; omega
      case c4 => omega
      case c5 => simp; omega
      intro v'' w1 hown' hgrow _ hblk
      have HX1 : Hid (New w w1 v'' (num n)) := by
        unfold Hid
        rw [HN.out, num_lt hlt]
        exact New.of (HW.out.fr.alloc _) (by rw [List.length_append, cb_append]; exact hown') hgrow (fun k hk => (HW.out.own.lt k hk).1)
      clear hown' hgrow hblk
      go_wp2
      go_ret
      exact ⟨_, rfl, HX1.out⟩
    · obtain ⟨x, hx⟩ : ∃ x, x = UInt8.ofNat (m % 128 + 128) := ⟨_, rfl⟩
      have e1 : (m : Int) % 128 + 128 = (x.toNat : Int) := by rw [hx, UInt8.toNat_ofNat']; omega
      have e2 := u64_div m hm.out
      have HNN := Lib.hid (show num m = x :: num (m / 128) by rw [num_ge hlt, hx])
      clear hx
      go_wp2_with (at_builtin; refine wpList_app rfl _ _ 31 rfl w.heap.size 5 i0 (.int .u8 0) 1 Try.underlying31 hi hz0 hz1 hz2 rfl _ _ _ rfl (HW.out.own.alloc _) (some ⟨wr.heap.size, 0, none⟩) 1 1 (cb [x]) rfl rfl ?c1 (cb_one _) ?c2 ?c3 ?c4 ?c5 ?_)
      case c1 => exact Rd.of_cells (Bk.new _ _ _)
      case c2 => intro h; cases h
      case c3 => unfold maxLen; omega
      case c4 => omega
      case c5 => simp; omega
      intro v'' w1 hown' hgrow _ hblk
      have HX1 : Hid (New w w1 v'' (d ++ [x])) := New.of (HW.out.fr.alloc _) (by rw [List.length_append, cb_append]; exact hown') hgrow (fun k hk => (HW.out.own.lt k hk).1)
      clear hown' hgrow hblk
      go_wp2
      go_roundw
      case rel => exact ⟨m / 128, d ++ [x], by go_num, by have := hm.out; unfold Hid; omega, by unfold Hid; rw [HN.out, HNN.out]; simp, HX1⟩
      case measure => simp [intOf]; omega

set_option maxRecDepth 100000 in
set_option maxHeartbeats 400000 in
/-- the document's own answer for a text. -/
theorem reftext_any (w : World) (A : Option Addr) (n c : Nat) (t : List UInt8) (hn : n = t.length) (hr : Rd w A (cb t)) (hA : A = none → c = 0) (ht : t.length ≤ 100000000) :
    Calls Try.prog 47 #[.slice A n c] w fun e w' => ∃ v', e = .returned v' ∧ New w w' v' (num t.length ++ t) := by
  obtain ⟨i0, hi, hz0, hz1, hz2⟩ := info_parts byteInfo
  subst hn
  have HT := Lib.hid ht
  have HR := Lib.hid hr
  have HA := Lib.hid hA
  have HN := Lib.hid (num_len t.length (by omega))
  clear ht hr hA
  have hwr : ((t.length : Int) % 18446744073709551616) = (t.length : Int) := by have := HT.out; omega
  go_enter Try.func47, Try.ntmps47
  go_wp2_with fail
  refine (refnum_any w t.length (by have := HT.out; omega)).mono ?_
  rintro e w1 ⟨v1, rfl, hn1⟩
  have HW := Lib.hid hn1
  clear hn1
  obtain ⟨A1, c1, rfl, _, _⟩ := own_form HW.out.own
  go_wp2_with (at_builtin; refine wpList_app rfl _ _ 31 rfl w.heap.size 5 i0 (.int .u8 0) 1 Try.underlying31 hi hz0 hz1 hz2 rfl _ _ _ rfl HW.out.own A c t.length (cb t) rfl (cb_length t) ?c1 (cb_one _) ?c2 ?c3 ?c4 ?c5 ?_)
  case c1 => exact HR.out.nofr HW.out.fr
  case c2 => exact HA.out
  case c3 => have := HT.out; have := HN.out; unfold maxLen; omega
  case c4 => have := HT.out; have := HN.out; omega
  case c5 => exact HW.out.fr.size
  intro v'' w2 hown' hgrow _ hblk
  have HX1 : Hid (New w w2 v'' (num t.length ++ t)) := New.of HW.out.fr (by rw [List.length_append, cb_append]; exact hown') hgrow (fun k hk => (HW.out.own.lt k hk).1)
  clear hown' hgrow hblk
  go_wp2
  go_ret
  exact ⟨_, rfl, HX1.out⟩
end Go.Proofs.Ytkdcacajacndmaa
