/- The contracts of the pen's other calls, of slices.Clone at bytes, and of the document's own answers for numbers and texts as bytes. Conditions: lengths are short; rows are the call's own. -/
import Derived.Test.YtakbjjohfcgaoaaPen
namespace Go.Proofs.Ytakbjjohfcgaoaa
open Go.RowKit

theorem eqnil (W : World) (A : Option Addr) (n c : Nat) : (binOp .eql 45 (.slice A n c) (.slice none 0 0)).run Try.prog W = .ok (.bool A.isNone) W :=
  Lib.run_eql_slice_nil W _ _ A n c 0 0 Try.underlying45

/-- what a call hands back that lies in new memory. -/
structure New (w w' : World) (v : Value) (l : List UInt8) : Prop where
  own : w'.ownsRow w.heap.size 5 1 v l.length (cb l)
  fr : Fr NoBlk w w'

set_option maxRecDepth 100000 in
set_option maxHeartbeats 400000 in
theorem clone_any (w : World) (A : Option Addr) (n c : Nat) (l : List UInt8) (hn : n = l.length) (hr : Rd w A (cb l)) (hA : A = none → c = 0) (hl : l.length ≤ 1000000000) :
    Calls Try.prog 54 #[.slice A n c] w fun e w' => ∃ v', e = .returned v' ∧ New w w' v' l := by
  obtain ⟨i0, hi, hz0, hz1, hz2⟩ := info_parts byteInfo
  subst hn
  rcases A with _ | ad
  · have hl0 : l = [] := by
      rcases Nat.eq_zero_or_pos l.length with h0 | h0
      · exact List.eq_nil_of_length_eq_zero h0
      · obtain ⟨_, _, h, _⟩ := hr (by rw [cb_length]; exact h0)
        cases h
    subst hl0
    obtain rfl := hA rfl
    have q := eqnil w none 0 0
    clear hr hA hl
    simp only [List.length_nil]
    go_enter Try.func54, Try.ntmps54
    go_wp2
    go_ret
    exact ⟨_, rfl, World.ownsRow_nil _ _ _ _, Fr.refl _ _⟩
  · clear hA
    have HR := Lib.hid hr
    have HS := Lib.hid hl
    have q := eqnil w (some ad) l.length c
    clear hr hl
    go_enter Try.func54, Try.ntmps54
    go_wp2_with (at_builtin; refine wpList_app rfl _ _ 45 rfl w.heap.size 5 i0 (.int .u8 0) 1 Try.underlying45 hi hz0 hz1 hz2 rfl _ 0 [] rfl (World.ownsRow_made w #[] 0 (Nat.le_refl _) (by decide) rfl) (some ad) c l.length (cb l) rfl (cb_length l) ?c1 (cb_one _) ?c2 ?c3 ?c4 ?c5 ?_)
    case c1 => exact HR.out.alloc _
    case c2 => intro h; cases h
    case c3 => have := HS.out; unfold maxLen; omega
    case c4 => have := HS.out; omega
    case c5 => simp
    intro v' w1 hown' hgrow _ hblk
    have HX : Hid (New w w1 v' l) := ⟨by simpa using hown', ((Fr.refl _ _).alloc _).grown hgrow (fun k hk hlt => by simp [Value.ownBlock] at hk; omega)⟩
    clear hown' hgrow hblk
    go_wp2
    go_ret
    exact ⟨v', rfl, HX.out⟩


set_option maxRecDepth 100000 in
set_option maxHeartbeats 400000 in
theorem data_any (w : World) (base g : Nat) (v : Value) (l : List UInt8) (hp : Pen w base g v l) (hl : l.length ≤ 1000000000) :
    Calls Try.prog 35 #[.pointer (some ⟨g, 0, none⟩)] w fun e w' => ∃ v', e = .returned v' ∧ New w w' v' l := by
  have hc := hp.bk.cell 0
  simp only [List.getElem?_toArray, List.getElem?_cons_zero] at hc
  obtain ⟨A, c, rfl, _, hA⟩ := own_form hp.own
  have HR := Lib.hid (Rd.of_own hp.own)
  have HA := Lib.hid hA
  have HS := Lib.hid hl
  clear hp hA hl
  go_enter Try.func35, Try.ntmps35
  go_wp2_with fail
  refine (clone_any w A _ c l rfl HR.out HA.out HS.out).mono ?_
  rintro e w' ⟨v', rfl, hn⟩
  have HN := Lib.hid hn
  clear hn
  go_wp2_with fail
  go_ret
  exact ⟨v', rfl, HN.out⟩

set_option maxRecDepth 100000 in
set_option maxHeartbeats 400000 in
theorem text_any (w : World) (base g : Nat) (A : Option Addr) (n c : Nat) (t : List UInt8) (v : Value) (l : List UInt8) (hp : Pen w base g v l) (hb : base ≤ w.heap.size) (hn : n = t.length) (hr : Rd w A (cb t)) (hA : A = none → c = 0)
    (hs : 0 < t.length → ∀ k, ablk A k → k ≠ g ∧ some k ≠ v.ownBlock) (ht : t.length ≤ 100000000) (hl : l.length ≤ 100000000) :
    Calls Try.prog 83 #[.pointer (some ⟨g, 0, none⟩), .slice A n c] w fun e w' => e = .returned (.tuple #[]) ∧ ∃ v', Wro w w' base g v v' (l ++ (num t.length ++ t)) := by
  obtain ⟨i0, hi, hz0, hz1, hz2⟩ := info_parts byteInfo
  subst hn
  have HP := Lib.hid hp
  have HS := Lib.hid hl
  have HT := Lib.hid ht
  have HR := Lib.hid hr
  have HA := Lib.hid hA
  have HSep := Lib.hid hs
  have HN := Lib.hid (num_len t.length (by omega))
  clear hp hl ht hr hA hs
  have hwr : ((t.length : Int) % 18446744073709551616) = (t.length : Int) := by have := HT.out; omega
  go_enter Try.func83, Try.ntmps83
  go_wp2_with fail
  refine (num_any w base g t.length v l HP.out hb (by have := HT.out; omega) (by have := HS.out; omega)).mono ?_
  rintro e w1 ⟨rfl, v1, hw1⟩
  have hc := hw1.pen.bk.cell 0
  have hf := hw1.pen.bk.free 0
  simp only [List.getElem?_toArray, List.getElem?_cons_zero] at hc
  have hb1 : base ≤ w1.heap.size := Nat.le_trans hb hw1.fr.size
  have HR1 := Lib.hid (HR.out.fr' hw1.fr (by
    intro hx k hk
    have := HSep.out (by rwa [cb_length] at hx) k hk
    rintro (e | e)
    · exact this.1 e
    · exact this.2 e))
  have HW := Lib.hid hw1
  clear hw1
  go_wp2_with (at_builtin; refine wpList_app rfl _ _ 45 rfl base 5 i0 (.int .u8 0) 1 Try.underlying45 hi hz0 hz1 hz2 rfl _ _ _ rfl HW.out.pen.own A c t.length (cb t) rfl (cb_length t) ?c1 (cb_one _) ?c2 ?c3 ?c4 ?c5 ?_)
  case c1 => exact HR1.out
  case c2 => exact HA.out
  case c3 => have := HS.out; have := HT.out; have := HN.out; rw [List.length_append]; unfold maxLen; omega
  case c4 => have := HS.out; have := HT.out; have := HN.out; rw [List.length_append]; omega
  case c5 => omega
  intro v'' w2 hown' hgrow _ hblk
  obtain ⟨A2, c2, rfl, _, _⟩ := own_form hown'
  have HX1 := Lib.hid (Wro.push (m := t.length) (d := t) HW.out.pen (Fr.refl _ _) (by rw [List.length_append]; exact hown') hgrow (by simpa using hblk) rfl)
  clear hown' hgrow hblk hc hf
  have hc1 : w2.cell? ⟨g, 0, none⟩ = some v1 := HX1.out.1.cell 0
  have hf1 := HX1.out.1.free 0
  go_wp2
  go_end0
  exact ⟨rfl, _, by rw [← List.append_assoc]; exact HW.out.trans HX1.out.2⟩
end Go.Proofs.Ytakbjjohfcgaoaa
