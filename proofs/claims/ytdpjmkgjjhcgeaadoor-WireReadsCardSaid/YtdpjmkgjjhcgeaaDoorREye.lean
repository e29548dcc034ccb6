/- The contracts of the document's own eye, and of spoil. Conditions: the bytes lie elsewhere than the eye; lengths are short. -/
import Derived.Test.YtdpjmkgjjhcgeaaDoorEye3
import Derived.Deep.QuietTactic
import Derived.BigQuiet
namespace Go.Proofs.YtdpjmkgjjhcgeaaDoor
open Go.RowKit

/-- the document's eye: block g holds a slice of all bytes, and how many were read. -/
structure REye (w : World) (g : Nat) (A : Option Addr) (c : Nat) (l : List UInt8) (i : Nat) : Prop where
  bk : Bk w g 71 #[.slice A l.length c, .int .i64 (i : Int)]
  rd : Rd w A (cb l)
  cap : l.length ≤ c
  at_ : i ≤ l.length
  sep : 0 < l.length → ∀ k, ablk A k → k ≠ g

theorem REye.drewN {w : World} {g : Nat} {A : Option Addr} {c : Nat} {l : List UInt8} {i : Nat} (h : REye w g A c l i) (n : Nat) : REye (w.drewN n) g A c l i :=
  ⟨h.bk, h.rd.nofr ((Fr.refl _ _).drewN n), h.cap, h.at_, h.sep⟩

/-- what a call on the document's eye leaves. -/
structure REyed (w w' : World) (g : Nat) (A : Option Addr) (c : Nat) (l : List UInt8) (i : Nat) : Prop where
  eye : REye w' g A c l i
  fr : Fr (fun k => k = g) w w'

theorem REye.keep {C : Nat → Prop} {w w' : World} {g : Nat} {A : Option Addr} {c : Nat} {l : List UInt8} {i : Nat} (h : REye w g A c l i) (hf : Fr C w w') (hg : ¬ C g) (hr : 0 < l.length → ∀ k, ablk A k → ¬ C k) : REye w' g A c l i :=
  ⟨h.bk.fr hf hg, h.rd.fr' hf (fun h0 => hr (by rwa [cb_length] at h0)), h.cap, h.at_, h.sep⟩
theorem REye.here {w : World} {g : Nat} {A : Option Addr} {c : Nat} {l : List UInt8} {i : Nat} (h : REye w g A c l i) (n : Nat) : REyed w (w.drewN n) g A c l i :=
  ⟨h.drewN n, (Fr.refl _ _).drewN n⟩
theorem REye.put {w : World} {g : Nat} {A : Option Addr} {c : Nat} {l : List UInt8} {i j : Nat} (h : REye w g A c l i) (hj : j ≤ l.length) (v : Int) (hv : v = (j : Int)) : REyed w (w.setCell ⟨g, 1, none⟩ (.int .i64 v)) g A c l j := by
  subst hv
  exact ⟨⟨by simpa using h.bk.put 1 (.int .i64 (j : Int)), h.rd.fr' (C := fun k => k = g) ((Fr.refl (fun k => k = g) w).setCell (p := ⟨g, 1, none⟩) (fun _ => rfl) _) (fun h0 k hk => h.sep (by rwa [cb_length] at h0) k hk), h.cap, hj, h.sep⟩,
    (Fr.refl (fun k => k = g) w).setCell (p := ⟨g, 1, none⟩) (fun _ => rfl) _⟩
theorem REyed.trans {w w1 w2 : World} {g : Nat} {A : Option Addr} {c : Nat} {l : List UInt8} {i j : Nat} (h : REyed w w1 g A c l i) (k : REyed w1 w2 g A c l j) : REyed w w2 g A c l j := ⟨k.eye, h.fr.trans k.fr⟩
theorem REyed.drewN {w w1 : World} {g : Nat} {A : Option Addr} {c : Nat} {l : List UInt8} {i : Nat} (h : REyed w w1 g A c l i) (n : Nat) : REyed w (w1.drewN n) g A c l i := ⟨h.eye.drewN n, h.fr.drewN n⟩
theorem REye.cells {w : World} {g : Nat} {A : Option Addr} {c : Nat} {l : List UInt8} {i : Nat} (h : REye w g A c l i) :
    w.cell? ⟨g, 0, none⟩ = some (.slice A l.length c) ∧ w.cell? ⟨g, 1, none⟩ = some (.int .i64 (i : Int)) ∧ w.frozen? ⟨g, 1, none⟩ = false :=
  ⟨by simpa using h.bk.cell 0, by simpa using h.bk.cell 1, h.bk.free 1⟩

set_option maxRecDepth 100000 in
set_option maxHeartbeats 400000 in
theorem reyeEnd_any (w : World) (g : Nat) (A : Option Addr) (c : Nat) (l : List UInt8) (i : Nat) (he : REye w g A c l i) (_hl : l.length ≤ 1000000000) :
    Calls Tryd.prog 34 #[.pointer (some ⟨g, 0, none⟩)] w fun e w' => e = .returned (.int .i64 (if l.drop i = [] then 0 else 32)) ∧ Fr NoBlk w w' := by
  obtain ⟨hc0, hc1, _⟩ := he.cells
  clear he
  by_cases h : i < l.length
  · have h0 : l.drop i ≠ [] := by rw [Ne, List.drop_eq_nil_iff]; omega
    rw [if_neg h0]
    clear h0
    go_enter Tryd.func34, Tryd.ntmps34
    go_wp2
    go_quiet (fail)
    go_wp2
    go_ret
    exact ⟨rfl, (Fr.refl _ _).drewN _⟩
  · have h0 : l.drop i = [] := by rw [List.drop_eq_nil_iff]; omega
    rw [if_pos h0]
    clear h0
    go_enter Tryd.func34, Tryd.ntmps34
    go_wp2
    go_quiet (fail)
    go_wp2
    go_ret
    exact ⟨rfl, (Fr.refl _ _).drewN _⟩

end Go.Proofs.YtdpjmkgjjhcgeaaDoor
