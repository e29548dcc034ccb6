/- The contracts of the eye's calls. Conditions: the eye's bytes are kept, lengths are short. -/
import Derived.Test.YtdpjmkgjjhcgeaaDoorEye
namespace Go.Proofs.YtdpjmkgjjhcgeaaDoor
open Go.RowKit

/-- an eye: block g holds a slice of the bytes that are left, which lie elsewhere. -/
structure Eye (w : World) (g : Nat) (A : Option Addr) (c : Nat) (l : List UInt8) : Prop where
  bk : Bk w g 84 #[.slice A l.length c]
  rd : Rd w A (cb l)
  nil : A = none → c = 0
  cap : l.length ≤ c
  sep : ∀ k, ablk A k → k ≠ g

/-- what a call on an eye leaves: the eye at the bytes l', in the row in which it was. -/
structure Eyed (w w' : World) (g : Nat) (A A' : Option Addr) (c' : Nat) (l' : List UInt8) : Prop where
  eye : Eye w' g A' c' l'
  fr : Fr (fun k => k = g) w w'
  row : ∀ k, ablk A' k → ablk A k

theorem numGo_size (t : List UInt8) : ∀ k n, (numGo k n t).2.1 ≤ k + t.length := by
  induction t with
  | nil => intro k n; simp [numGo]
  | cons b t ih =>
    intro k n
    rw [numGo]
    split
    · exact Nat.zero_le _
    · split
      · have := ih (k + 1) (n + b.toNat % 128 * 128 ^ k)
        simp only [List.length_cons]
        omega
      · split
        · exact Nat.zero_le _
        · simp only [List.length_cons]; omega
theorem rdNum_size (l : List UInt8) : (rdNum l).2.1 ≤ l.length := by have := numGo_size l 0 0; unfold rdNum; omega

theorem Eye.keep {C : Nat → Prop} {w w' : World} {g : Nat} {A : Option Addr} {c : Nat} {l : List UInt8} (h : Eye w g A c l) (hf : Fr C w w') (hg : ¬ C g) (hr : ∀ k, ablk A k → ¬ C k) : Eye w' g A c l :=
  ⟨h.bk.fr hf hg, h.rd.fr hf hr, h.nil, h.cap, h.sep⟩
theorem Eye.keep' {C : Nat → Prop} {w w' : World} {g : Nat} {A : Option Addr} {c : Nat} {l : List UInt8} (h : Eye w g A c l) (hf : Fr C w w') (hg : ¬ C g) (hr : 0 < l.length → ∀ k, ablk A k → ¬ C k) : Eye w' g A c l :=
  ⟨h.bk.fr hf hg, h.rd.fr' hf (fun h0 => hr (by rwa [cb_length] at h0)), h.nil, h.cap, h.sep⟩
theorem ablk_cut {A : Option Addr} {c s k : Nat} (h : ablk (if c = s then A else A.map (·.add s)) k) : ablk A k := by
  obtain ⟨b, e, rfl⟩ := h
  split at e
  · exact ⟨b, e, rfl⟩
  · cases A with
    | none => cases e
    | some a =>
      injection e with e
      subst e
      exact ⟨a, rfl, by unfold Addr.add; split <;> rfl⟩

theorem Eyed.put {w : World} {g : Nat} {A A' : Option Addr} {c c' : Nat} {l l' : List UInt8} (h : Eye w g A c l) (hr : Rd w A' (cb l')) (hn : A' = none → c' = 0) (hc : l'.length ≤ c') (hrow : ∀ k, ablk A' k → ablk A k) (n : Nat) (hl : n = l'.length) :
    Eyed w (w.setCell ⟨g, 0, none⟩ (.slice A' n c')) g A A' c' l' := by
  subst hl
  refine ⟨⟨by simpa using h.bk.put 0 (.slice A' l'.length c'), ?_, hn, hc, fun k hk => h.sep k (hrow k hk)⟩, (Fr.refl (fun k => k = g) w).setCell (p := ⟨g, 0, none⟩) (fun _ => rfl) _, hrow⟩
  exact hr.fr (C := fun k => k = g) ((Fr.refl (fun k => k = g) w).setCell (p := ⟨g, 0, none⟩) (fun _ => rfl) _) (fun k hk => h.sep k (hrow k hk))
theorem Eyed.cut_full {w : World} {g : Nat} {A : Option Addr} {c s : Nat} {l : List UInt8} (h : Eye w g A c l) (hs : s ≤ l.length) (he : c = s) :
    Eyed w (w.setCell ⟨g, 0, none⟩ (.slice A (l.length - s) 0)) g A A 0 (l.drop s) := by
  have := h.cap
  have h0 : l.drop s = [] := List.drop_eq_nil_of_le (by omega)
  refine Eyed.put h ?_ (fun _ => rfl) (by rw [h0]; simp) (fun _ h => h) _ (by rw [List.length_drop])
  rw [h0]
  exact Rd.none_ _ _
theorem Eyed.cut_part {w : World} {g : Nat} {A : Option Addr} {c s : Nat} {l : List UInt8} (h : Eye w g A c l) (hs : s ≤ l.length) (he : ¬ c = s) :
    Eyed w (w.setCell ⟨g, 0, none⟩ (.slice (Option.map (fun x => x.add s) A) (l.length - s) (c - s))) g A (Option.map (fun x => x.add s) A) (c - s) (l.drop s) := by
  have hr := h.rd.cut (k := s) (cap := c) (by rw [cb_length]; exact hs) (by rw [cb_length]; exact h.cap)
  rw [if_neg he, ← cb_drop] at hr
  refine Eyed.put h hr ?_ ?_ ?_ _ (by rw [List.length_drop])
  · intro hn
    cases A with
    | none => have := h.nil rfl; omega
    | some a => cases hn
  · have := h.cap
    rw [List.length_drop]
    omega
  · intro k hk
    exact ablk_cut (c := c) (s := s) (by rw [if_neg he]; exact hk)
theorem Eyed.same {w : World} {g : Nat} {A : Option Addr} {c : Nat} {l : List UInt8} (h : Eye w g A c l) : Eyed w w g A A c l := ⟨h, Fr.refl _ _, fun _ h => h⟩
theorem Eyed.trans {w w1 w2 : World} {g : Nat} {A A1 A2 : Option Addr} {c1 c2 : Nat} {l1 l2 : List UInt8} (h : Eyed w w1 g A A1 c1 l1) (k : Eyed w1 w2 g A1 A2 c2 l2) : Eyed w w2 g A A2 c2 l2 :=
  ⟨k.eye, h.fr.trans k.fr, fun q hq => h.row q (k.row q hq)⟩

set_option maxRecDepth 100000 in
set_option maxHeartbeats 400000 in
theorem newEye_any (w : World) (A : Option Addr) (n c : Nat) (l : List UInt8) (hn : n = l.length) (hr : Rd w A (cb l)) (hA : A = none → c = 0) (hl : l.length ≤ 1000000000) :
    Calls Tryd.prog 28 #[.slice A n c] w fun e w' => ∃ g A' c', e = .returned (.pointer (some ⟨g, 0, none⟩)) ∧ Eye w' g A' c' l ∧ Fr NoBlk w w' ∧ w.heap.size ≤ g ∧ ∀ k, ablk A' k → w.heap.size ≤ k ∧ k < w'.heap.size := by
  subst hn
  have HR := Lib.hid hr
  have HA := Lib.hid hA
  have HL := Lib.hid hl
  clear hr hA hl
  go_enter Tryd.func28, Tryd.ntmps28
  go_wp2_with fail
  refine (clone_any w A _ c l rfl HR.out HA.out HL.out).mono ?_
  rintro e w1 ⟨v1, rfl, hn1⟩
  obtain ⟨A1, c1, rfl, hc1, hA1⟩ := own_form hn1.own
  have HN := Lib.hid hn1
  have HC := Lib.hid hc1
  have HA1 := Lib.hid hA1
  clear hn1 hc1 hA1
  go_wp2_with fail
  go_ret
  have hb : ∀ k, ablk A1 k → w.heap.size ≤ k ∧ k < w1.heap.size := by
    rintro k ⟨b, rfl, rfl⟩
    exact HN.out.own.lt _ rfl
  refine ⟨_, A1, c1, rfl, ⟨Bk.new _ _ _, (Rd.of_own HN.out.own).alloc _, HA1.out, HC.out, ?_⟩, HN.out.fr.alloc _, HN.out.fr.size, fun k hk => ⟨(hb k hk).1, by have := (hb k hk).2; simp; omega⟩⟩
  intro k hk
  have := (hb k hk).2
  omega

set_option maxRecDepth 100000 in
set_option maxHeartbeats 400000 in
theorem eyeNum_any (w : World) (g : Nat) (A : Option Addr) (c : Nat) (l : List UInt8) (he : Eye w g A c l) (hl : l.length ≤ 1000000000) :
    Calls Tryd.prog 41 #[.pointer (some ⟨g, 0, none⟩)] w fun e w' => e = .returned (.tuple #[.int .u64 ((rdNum l).1 : Int), .int .i64 ((rdNum l).2.2 : Int)]) ∧ ∃ A' c', Eyed w w' g A A' c' (l.drop (rdNum l).2.1) := by
  have hc := he.bk.cell 0
  have hf := he.bk.free 0
  simp only [List.getElem?_toArray, List.getElem?_cons_zero] at hc
  have HE := Lib.hid he
  have HL := Lib.hid hl
  have hs := rdNum_size l
  have hcap := he.cap
  clear he hl
  go_enter Tryd.func41, Tryd.ntmps41
  go_wp2_with fail
  refine (number_any w A _ c l rfl HE.out.rd HL.out).mono ?_
  rintro e w1 ⟨rfl, rfl⟩
  obtain ⟨m, s, k, hx⟩ : ∃ m s k, rdNum l = (m, s, k) := ⟨_, _, _, rfl⟩
  rw [hx] at hs ⊢
  have HX := Lib.hid hx
  clear hx
  simp only at hs ⊢
  by_cases h : c = s
  · have HZ := Lib.hid (Eyed.cut_full HE.out hs h)
    go_wp2_with fail
    go_ret2
    rw [HX.out]
    exact ⟨rfl, _, _, HZ.out⟩
  · have HZ := Lib.hid (Eyed.cut_part HE.out hs h)
    go_wp2_with fail
    go_ret2
    rw [HX.out]
    exact ⟨rfl, _, _, HZ.out⟩
end Go.Proofs.YtdpjmkgjjhcgeaaDoor
