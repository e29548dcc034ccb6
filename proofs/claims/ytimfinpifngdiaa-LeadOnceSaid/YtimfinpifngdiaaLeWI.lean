/- The program's Leader at int, its calls in one form: it was made since a world, which is as it was. Conditions: numbers of their types; fewer entries than a length can be. -/
import Derived.Test.YtimfinpifngdiaaLe4I

namespace Go.Proofs.Ytimfinpifngdiaa
open Go.RowKit Go.Maps

/-- a leader made since world w. -/
structure LeI (w W : World) (g bp bt bv : Nat) (L : LdrI) : Prop where
  ld : LdI W w.heap.size g bp bt bv L
  fr : Fr NoBlk w W
theorem LeI.nofr {w W W' : World} {g bp bt bv : Nat} {L : LdrI} (h : LeI w W g bp bt bv L) (hf : Fr NoBlk W W') : LeI w W' g bp bt bv L := ⟨h.ld.nofr hf, h.fr.trans hf⟩
theorem LdI.low {w : World} {B B' g bp bt bv : Nat} {L : LdrI} (h : LdI w B g bp bt bv L) (hb : B' ≤ B) : LdI w B' g bp bt bv L :=
  ⟨h.bk, h.kp, h.kt, h.kv, h.n1, h.n2, h.n3, Nat.le_trans hb h.b0, Nat.le_trans hb h.b1, Nat.le_trans hb h.b2, Nat.le_trans hb h.b3, h.vo, h.sl, h.vd⟩
section
variable {w W : World} {g bp bt bv : Nat} {L : LdrI}
theorem LeI.value (h : LeI w W g bp bt bv L) : Calls Try.prog 30 #[.pointer (some ⟨g, 0, none⟩)] W fun e w' => e = .returned (tupI (valOI L)) ∧ LeI w w' g bp bt bv L :=
  (valueI_any W _ g bp bt bv L h.ld).mono fun e w' ⟨he, hf⟩ => ⟨he, h.nofr hf⟩
theorem LeI.leads_ (h : LeI w W g bp bt bv L) : Calls Try.prog 36 #[.pointer (some ⟨g, 0, none⟩)] W fun e w' => e = .returned (.bool L.leads) ∧ W = w' := leadsI_any W _ g bp bt bv L h.ld
theorem LeI.slot_ (h : LeI w W g bp bt bv L) : Calls Try.prog 29 #[.pointer (some ⟨g, 0, none⟩)] W fun e w' => e = .returned (.int .i64 (L.slot : Int)) ∧ W = w' := slotI_any W _ g bp bt bv L h.ld
theorem LeI.offer (h : LeI w W g bp bt bv L) (hn : L.nv < 100000) (v : Int) : Calls Try.prog 28 #[.pointer (some ⟨g, 0, none⟩), evI v] W fun e w' => e = .returned (.bool (offBI L)) ∧ LeI w w' g bp bt bv (offI L v) :=
  (offerI_any W _ g bp bt bv L h.ld hn v).mono fun e w' ⟨he, hl, hf⟩ => ⟨he, hl, h.fr.step hf fun i hi e => by have := h.ld.b3; omega⟩
theorem LeI.taken (h : LeI w W g bp bt bv L) (hn : L.nt < 1000) (x s : Int) (hx : wf64 x) : Calls Try.prog 32 #[.pointer (some ⟨g, 0, none⟩), .int .i64 x, .int .i64 s] W fun e w' => e = .returned (tupI (takenI L x s).2) ∧ LeI w w' g bp bt bv (takenI L x s).1 :=
  (takenI_any W _ g bp bt bv L h.ld hn x s hx).mono fun e w' ⟨he, hl, hf⟩ => ⟨he, hl, h.fr.step hf fun i hi e => by
    have h0 := h.ld.b0
    have h2 := h.ld.b2
    have h3 := h.ld.b3
    rcases e with e | e | e <;> omega⟩
theorem LeI.prom (h : LeI w W g bp bt bv L) (hn : L.np < 1000) (x : Int) (hx : wf64 x) (A : Option Addr) (c n : Nat) (vs : List VtI) (hnn : n = vs.length) (hnv : L.nv + vs.length < 100000) (hr : Rd W A (vtsI vs)) (hw : ∀ v ∈ vs, wf64 v.1) (hA : ∀ k, ablk A k → k ≠ g ∧ k ≠ bp ∧ k ≠ bv) :
    Calls Try.prog 27 #[.pointer (some ⟨g, 0, none⟩), .int .i64 x, .slice A n c] W fun e w' => e = .returned (.tuple #[]) ∧ LeI w w' g bp bt bv (promI L x vs) ∧ Fr (PrBI g bp bv) W w' := by
  subst hnn
  exact (promI_any W _ g bp bt bv L h.ld hn x hx A c vs hnv hr hw (fun k hk e => by have := hA k hk; rcases e with e | e | e <;> omega)).mono fun e w' ⟨he, hl, hf⟩ => ⟨he, ⟨hl, h.fr.step hf fun i hi e => by
    have h0 := h.ld.b0
    have h2 := h.ld.b1
    have h3 := h.ld.b3
    rcases e with e | e | e <;> omega⟩, hf⟩
/-- a promise that tells nothing. -/
theorem LeI.prom0 (h : LeI w W g bp bt bv L) (hn : L.np < 1000) (hnv : L.nv < 100000) (x : Int) (hx : wf64 x) :
    Calls Try.prog 27 #[.pointer (some ⟨g, 0, none⟩), .int .i64 x, .slice none 0 0] W fun e w' => e = .returned (.tuple #[]) ∧ LeI w w' g bp bt bv (promI L x []) :=
  (h.prom hn x hx none 0 0 [] rfl hnv (Rd.none_ _ _) (fun _ h => by cases h) (fun k ⟨b, e, _⟩ => by cases e)).mono fun e w' ⟨he, hl, _⟩ => ⟨he, hl⟩
end
theorem newLeI (w : World) (b v f : Int) (hv : 1 ≤ v ∧ v ≤ 9) (hf : 0 ≤ f ∧ f ≤ 64) : Calls Try.prog 25 #[.int .u64 b, .int .i64 v, .int .i64 f] w fun e w' => ∃ g bp bt bv, e = .returned (.tuple #[.pointer (some ⟨g, 0, none⟩), .int .i64 0]) ∧ LeI w w' g bp bt bv (newI v f) :=
  (newI_any w b v f).mono fun e w' ⟨hfr, h⟩ => by
    rcases h with ⟨_, _, _, _, g, bp, bt, bv, he, hl⟩ | ⟨hno, _⟩
    · exact ⟨g, bp, bt, bv, he, hl, hfr⟩
    · exact absurd ⟨hv.1, hv.2, hf.1, hf.2⟩ hno
end Go.Proofs.Ytimfinpifngdiaa
