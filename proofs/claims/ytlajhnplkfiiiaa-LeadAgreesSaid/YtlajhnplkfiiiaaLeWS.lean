/- The program's Leader at string, its calls in one form: it was made since a world, which is as it was. Conditions: numbers of their types; fewer entries than a length can be. -/
import Derived.Test.YtlajhnplkfiiiaaLe4S

namespace Go.Proofs.Ytlajhnplkfiiiaa
open Go.RowKit Go.Maps

/-- a leader made since world w. -/
structure LeS (w W : World) (g bp bt bv : Nat) (L : LdrS) : Prop where
  ld : LdS W w.heap.size g bp bt bv L
  fr : Fr NoBlk w W
theorem LeS.nofr {w W W' : World} {g bp bt bv : Nat} {L : LdrS} (h : LeS w W g bp bt bv L) (hf : Fr NoBlk W W') : LeS w W' g bp bt bv L := ⟨h.ld.nofr hf, h.fr.trans hf⟩
theorem LdS.low {w : World} {B B' g bp bt bv : Nat} {L : LdrS} (h : LdS w B g bp bt bv L) (hb : B' ≤ B) : LdS w B' g bp bt bv L :=
  ⟨h.bk, h.kp, h.kt, h.kv, h.n1, h.n2, h.n3, Nat.le_trans hb h.b0, Nat.le_trans hb h.b1, Nat.le_trans hb h.b2, Nat.le_trans hb h.b3, h.vo, h.sl, h.vd⟩
section
variable {w W : World} {g bp bt bv : Nat} {L : LdrS}
theorem LeS.value (h : LeS w W g bp bt bv L) : Calls Try.prog 23 #[.pointer (some ⟨g, 0, none⟩)] W fun e w' => e = .returned (tupS (valOS L)) ∧ LeS w w' g bp bt bv L :=
  (valueS_any W _ g bp bt bv L h.ld).mono fun _e _w' ⟨he, hf⟩ => ⟨he, h.nofr hf⟩
theorem LeS.leads_ (h : LeS w W g bp bt bv L) : Calls Try.prog 22 #[.pointer (some ⟨g, 0, none⟩)] W fun e w' => e = .returned (.bool L.leads) ∧ W = w' := leadsS_any W _ g bp bt bv L h.ld
theorem LeS.slot_ (h : LeS w W g bp bt bv L) : Calls Try.prog 24 #[.pointer (some ⟨g, 0, none⟩)] W fun e w' => e = .returned (.int .i64 (L.slot : Int)) ∧ W = w' := slotS_any W _ g bp bt bv L h.ld
theorem LeS.offer (h : LeS w W g bp bt bv L) (hn : L.nv < 100000) (v : ByteArray) : Calls Try.prog 19 #[.pointer (some ⟨g, 0, none⟩), evS v] W fun e w' => e = .returned (.bool (offBS L)) ∧ LeS w w' g bp bt bv (offS L v) :=
  (offerS_any W _ g bp bt bv L h.ld hn v).mono fun e w' ⟨he, hl, hf⟩ => ⟨he, hl, h.fr.step hf fun i hi e => by have := h.ld.b3; omega⟩
theorem LeS.taken (h : LeS w W g bp bt bv L) (hn : L.nt < 1000) (x s : Int) (hx : wf64 x) : Calls Try.prog 21 #[.pointer (some ⟨g, 0, none⟩), .int .i64 x, .int .i64 s] W fun e w' => e = .returned (tupS (takenS L x s).2) ∧ LeS w w' g bp bt bv (takenS L x s).1 :=
  (takenS_any W _ g bp bt bv L h.ld hn x s hx).mono fun e w' ⟨he, hl, hf⟩ => ⟨he, hl, h.fr.step hf fun i hi e => by
    have h0 := h.ld.b0
    have h2 := h.ld.b2
    have h3 := h.ld.b3
    rcases e with e | e | e <;> omega⟩
theorem LeS.prom (h : LeS w W g bp bt bv L) (hn : L.np < 1000) (x : Int) (hx : wf64 x) (A : Option Addr) (c n : Nat) (vs : List VtS) (hnn : n = vs.length) (hnv : L.nv + vs.length < 100000) (hr : Rd W A (vtsS vs)) (hw : ∀ v ∈ vs, wf64 v.1) (hA : ∀ k, ablk A k → k ≠ g ∧ k ≠ bp ∧ k ≠ bv) :
    Calls Try.prog 18 #[.pointer (some ⟨g, 0, none⟩), .int .i64 x, .slice A n c] W fun e w' => e = .returned (.tuple #[]) ∧ LeS w w' g bp bt bv (promS L x vs) ∧ Fr (PrBS g bp bv) W w' := by
  subst hnn
  exact (promS_any W _ g bp bt bv L h.ld hn x hx A c vs hnv hr hw (fun k hk e => by have := hA k hk; rcases e with e | e | e <;> omega)).mono fun e w' ⟨he, hl, hf⟩ => ⟨he, ⟨hl, h.fr.step hf fun i hi e => by
    have h0 := h.ld.b0
    have h2 := h.ld.b1
    have h3 := h.ld.b3
    rcases e with e | e | e <;> omega⟩, hf⟩
/-- a promise that tells nothing. -/
theorem LeS.prom0 (h : LeS w W g bp bt bv L) (hn : L.np < 1000) (hnv : L.nv < 100000) (x : Int) (hx : wf64 x) :
    Calls Try.prog 18 #[.pointer (some ⟨g, 0, none⟩), .int .i64 x, .slice none 0 0] W fun e w' => e = .returned (.tuple #[]) ∧ LeS w w' g bp bt bv (promS L x []) :=
  (h.prom hn x hx none 0 0 [] rfl hnv (Rd.none_ _ _) (fun _ h => by cases h) (fun k ⟨b, e, _⟩ => by cases e)).mono fun e w' ⟨he, hl, _⟩ => ⟨he, hl⟩
end
theorem newLeS (w : World) (b v f : Int) (hv : 1 ≤ v ∧ v ≤ 9) (hf : 0 ≤ f ∧ f ≤ 64) : Calls Try.prog 15 #[.int .u64 b, .int .i64 v, .int .i64 f] w fun e w' => ∃ g bp bt bv, e = .returned (.tuple #[.pointer (some ⟨g, 0, none⟩), .int .i64 0]) ∧ LeS w w' g bp bt bv (newS v f) :=
  (newS_any w b v f).mono fun e w' ⟨hfr, h⟩ => by
    rcases h with ⟨_, _, _, _, g, bp, bt, bv, he, hl⟩ | ⟨hno, _⟩
    · exact ⟨g, bp, bt, bv, he, hl, hfr⟩
    · exact absurd ⟨hv.1, hv.2, hf.1, hf.2⟩ hno
end Go.Proofs.Ytlajhnplkfiiiaa
