/- The program's reader: a number, a text, a small number. Conditions: the eye's bytes are kept, lengths are short. -/
import Derived.Test.YtdpjmkgjjhcgeaaDoorDec
import Derived.Test.YtdpjmkgjjhcgeaaDoorEye3
namespace Go.Proofs.YtdpjmkgjjhcgeaaDoor
open Go.RowKit

/-- a reader's eye stands before the bytes l; it and its row lie below N. -/
structure RE (w : World) (N ge : Nat) (l : List UInt8) : Prop where
  lt : ge < N
  len : l.length ≤ 1000000
  size : N ≤ w.heap.size
  ex : ∃ A c, Eye w ge A c l ∧ ∀ k, ablk A k → k < N
theorem RE.fr {C : Nat → Prop} {w w' : World} {N ge : Nat} {l : List UInt8} (h : RE w N ge l) (hf : Fr C w w') (hC : ∀ k, k < N → ¬ C k) : RE w' N ge l := by
  obtain ⟨A, c, he, hk⟩ := h.ex
  exact ⟨h.lt, h.len, by have := h.size; have := hf.size; omega, A, c, he.keep hf (hC _ h.lt) (fun k q => hC k (hk k q)), hk⟩
theorem RE.eyed {w w' : World} {N ge : Nat} {l l' : List UInt8} {A A' : Option Addr} {c' : Nat} (h : RE w N ge l) (hk : ∀ k, ablk A k → k < N) (hy : Eyed w w' ge A A' c' l') (hl : l'.length ≤ l.length) : RE w' N ge l' :=
  ⟨h.lt, by have := h.len; omega, by have := h.size; have := hy.fr.size; omega, A', c', hy.eye, fun k q => hk k (hy.row k q)⟩
def rv (ge : Nat) : Value := .agg #[.pointer (some ⟨ge, 0, none⟩)]

set_option maxRecDepth 100000 in
theorem rnum_any (w : World) (N ge : Nat) (l : List UInt8) (he : RE w N ge l) :
    Calls Tryd.prog 39 #[rv ge] w fun e w' => e = .returned (.int .u64 ((rN l).1 : Int)) ∧ RE w' N ge (rN l).2 ∧ Fr (fun k => k = ge) w w' := by
  obtain ⟨w0, hw0⟩ : ∃ w0, w0 = w.alloc (.cells #[.pointer (some ⟨ge, 0, none⟩)] 66) := ⟨_, rfl⟩
  have HF : Hid (Fr (fun k => k = ge) w w0) := by
    show Fr _ _ _
    rw [hw0]
    exact (Fr.refl _ _).alloc _
  have HE0 : Hid (RE w0 N ge l) := by
    show RE _ _ _ _
    rw [hw0]
    exact he.fr ((Fr.refl NoBlk _).alloc _) (fun _ _ h => h)
  obtain ⟨A, c, hy, hk⟩ := HE0.out.ex
  have HK := Lib.hid hk
  have K := Lib.hid (eyeNum_any w0 ge A c l hy (by have := he.len; omega))
  have c0 : w0.cell? ⟨w.heap.size, 0, none⟩ = some (.pointer (some ⟨ge, 0, none⟩)) := by rw [hw0]; exact (Bk.new w _ _).cell 0
  clear he hy hk
  unfold rv
  go_enter Tryd.func39, Tryd.ntmps39
  go_wp2_with fail
  rw [← hw0]
  clear hw0
  go_wp2_with fail
  refine K.out.mono ?_
  rintro e w1 ⟨rfl, A', c', hd⟩
  have HD := Lib.hid hd
  clear hd K c0
  go_wp2_with fail
  go_ret
  refine ⟨rfl, HE0.out.eyed HK.out HD.out (by show (l.drop _).length ≤ _; rw [List.length_drop]; omega), HF.out.trans HD.out.fr⟩

def RTxt (w : World) (N ge : Nat) (l : List UInt8) (e : Ending) (w' : World) : Prop :=
  e = .returned (.string (bstr (rT l).1)) ∧ RE w' N ge (rT l).2 ∧ Fr (fun k => k = ge) w w'

set_option maxRecDepth 100000 in
theorem rtext_any (w : World) (N ge : Nat) (l : List UInt8) (he : RE w N ge l) :
    Calls Tryd.prog 40 #[rv ge] w (RTxt w N ge l) := by
  obtain ⟨w0, hw0⟩ : ∃ w0, w0 = w.alloc (.cells #[.pointer (some ⟨ge, 0, none⟩)] 66) := ⟨_, rfl⟩
  have HF : Hid (Fr (fun k => k = ge) w w0) := by
    show Fr _ _ _
    rw [hw0]
    exact (Fr.refl _ _).alloc _
  have HE0 : Hid (RE w0 N ge l) := by
    show RE _ _ _ _
    rw [hw0]
    exact he.fr ((Fr.refl NoBlk _).alloc _) (fun _ _ h => h)
  obtain ⟨A, c, hy, hk⟩ := HE0.out.ex
  have HK := Lib.hid hk
  have K := Lib.hid (eyeText_any w0 ge A c l hy (by have := he.len; omega))
  have c0 : w0.cell? ⟨w.heap.size, 0, none⟩ = some (.pointer (some ⟨ge, 0, none⟩)) := by rw [hw0]; exact (Bk.new w _ _).cell 0
  clear he hy hk
  unfold rv
  go_enter Tryd.func40, Tryd.ntmps40
  go_wp2_with fail
  rw [← hw0]
  clear hw0
  go_wp2_with fail
  refine K.out.mono ?_
  rintro e w1 ⟨v', A', c', rfl, ho, hd⟩
  have HD := Lib.hid hd
  have HO := Lib.hid ho
  obtain ⟨A2, c2, rfl, _, _⟩ := own_form ho
  have hs := strBs w1 A2 (rdText l).1.length c2 (rdText l).1 rfl (Rd.of_own HO.out)
  have HS2 := Lib.hid hs
  clear hd ho K c0
  go_wp2_with fail
  go_ret
  refine ⟨rfl, HE0.out.eyed HK.out HD.out (by show (l.drop _).length ≤ _; rw [List.length_drop]; omega), HF.out.trans HD.out.fr⟩

set_option maxRecDepth 100000 in
theorem rsmall_any (w : World) (N ge : Nat) (l : List UInt8) (he : RE w N ge l) :
    Calls Tryd.prog 38 #[rv ge] w fun e w' => e = .returned (.int .i64 (sm (rN l).1)) ∧ RE w' N ge (rN l).2 ∧ Fr (fun k => k = ge) w w' := by
  obtain ⟨w0, hw0⟩ : ∃ w0, w0 = w.alloc (.cells #[.pointer (some ⟨ge, 0, none⟩)] 66) := ⟨_, rfl⟩
  have HF : Hid (Fr (fun k => k = ge) w w0) := by
    show Fr _ _ _
    rw [hw0]
    exact (Fr.refl _ _).alloc _
  have HE0 : Hid (RE w0 N ge l) := by
    show RE _ _ _ _
    rw [hw0]
    exact he.fr ((Fr.refl NoBlk _).alloc _) (fun _ _ h => h)
  have K := Lib.hid (rnum_any w0 N ge l HE0.out)
  have c0 : w0.cell? ⟨w.heap.size, 0, none⟩ = some (.pointer (some ⟨ge, 0, none⟩)) := by rw [hw0]; exact (Bk.new w _ _).cell 0
  clear he
  unfold rv at K ⊢
  go_enter Tryd.func38, Tryd.ntmps38
  go_wp2_with fail
  rw [← hw0]
  clear hw0
  go_wp2_with fail
  refine K.out.mono ?_
  rintro e w1 ⟨rfl, hre, hf⟩
  have HR := Lib.hid hre
  have HFF := Lib.hid hf
  clear hre hf K c0
  go_wp2_with fail
  go_ret
  refine ⟨rfl, HR.out, HF.out.trans HFF.out⟩

end Go.Proofs.YtdpjmkgjjhcgeaaDoor
