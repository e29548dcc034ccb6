/- What stands in memory while a script is played on the two leaders. No condition. -/
import Derived.Test.YtimfinpifngdiaaVot12
namespace Go.Proofs.Ytimfinpifngdiaa
open Go.RowKit Go.Maps

theorem bk_km_ne {w : World} {P : Program} {k g b s : Nat} {t : TypeId} {cs : Array Value} {f : Int → Option Value} (h : Bk w g t cs) (h' : Km P k w b s f) : g ≠ b := by
  intro e
  subst e
  obtain ⟨D, ⟨es, clock, hb, _⟩, _⟩ := h'
  unfold Bk at h
  rw [h] at hb
  cases hb
theorem RdL.blk {w : World} {B g c : Nat} {A : Option Addr} {R : Rdr} (h : RdL w B g A c R) {k : Nat} (hk : ablk A k) : B ≤ k ∧ ∃ cs, Bk w k 86 cs := by
  rcases h.own.2 with ⟨hv, _⟩ | ⟨g', cap, cur, hv, hb, hh, _⟩
  · injection hv with hv
    obtain ⟨a, e, _⟩ := hk
    rw [hv] at e
    cases e
  · injection hv with hv
    obtain ⟨a, e, rfl⟩ := hk
    rw [hv] at e
    injection e with e
    subst e
    exact ⟨hb, cur, hh⟩
/-- both leaders, made since world w. -/
structure MAt (w W : World) (g bp bt bv gr : Nat) (A : Option Addr) (c : Nat) (L : LdrS) (R : Rdr) : Prop where
  ld : LdS W w.heap.size g bp bt bv L
  rd : RdL W w.heap.size gr A c R
  fr : Fr NoBlk w W
/-- beside them, a call of the script, in a block of its own. -/
structure QAt (w W : World) (ob : Nat) (cs : Array Value) (g bp bt bv gr : Nat) (A : Option Addr) (c : Nat) (L : LdrS) (R : Rdr) : Prop where
  m : MAt w W g bp bt bv gr A c L R
  b : Bk W ob 34 cs
section
variable {w W W' : World} {g bp bt bv gr c ob : Nat} {A : Option Addr} {L : LdrS} {R : Rdr} {cs : Array Value}
theorem MAt.nofr (k : MAt w W g bp bt bv gr A c L R) (hf : Fr NoBlk W W') : MAt w W' g bp bt bv gr A c L R := ⟨k.ld.nofr hf, k.rd.nofr hf, k.fr.trans hf⟩
theorem QAt.nofr (k : QAt w W ob cs g bp bt bv gr A c L R) (hf : Fr NoBlk W W') : QAt w W' ob cs g bp bt bv gr A c L R := ⟨k.m.nofr hf, k.b.fr hf fun h => h⟩
theorem MAt.own (k : MAt w W g bp bt bv gr A c L R) {C : Nat → Prop} (hf : Fr C W W') (hC : ∀ j, C j → j = g ∨ j = bp ∨ j = bt ∨ j = bv) {L' : LdrS} (hl : LdS W' w.heap.size g bp bt bv L') : MAt w W' g bp bt bv gr A c L' R := by
  refine ⟨hl, k.rd.fr hf (fun h => ?_) (fun j hj h => ?_), k.fr.step hf fun i hi h => ?_⟩
  · rcases hC _ h with e | e | e | e
    · exact Bk.apart k.rd.bk k.ld.bk (by decide) e
    · exact bk_km_ne k.rd.bk k.ld.kp e
    · exact bk_km_ne k.rd.bk k.ld.kt e
    · exact bk_km_ne k.rd.bk k.ld.kv e
  · obtain ⟨_, cur, hb⟩ := k.rd.blk hj
    rcases hC _ h with e | e | e | e
    · exact Bk.apart hb k.ld.bk (by decide) e
    · exact bk_km_ne hb k.ld.kp e
    · exact bk_km_ne hb k.ld.kt e
    · exact bk_km_ne hb k.ld.kv e
  · have h0 := k.ld.b0
    have h1 := k.ld.b1
    have h2 := k.ld.b2
    have h3 := k.ld.b3
    rcases hC _ h with e | e | e | e <;> omega
theorem QAt.own (k : QAt w W ob cs g bp bt bv gr A c L R) {C : Nat → Prop} (hf : Fr C W W') (hC : ∀ j, C j → j = g ∨ j = bp ∨ j = bt ∨ j = bv) {L' : LdrS} (hl : LdS W' w.heap.size g bp bt bv L') : QAt w W' ob cs g bp bt bv gr A c L' R := by
  refine ⟨k.m.own hf hC hl, k.b.fr hf fun h => ?_⟩
  rcases hC _ h with e | e | e | e
  · exact Bk.apart k.b k.m.ld.bk (by decide) e
  · exact bk_km_ne k.b k.m.ld.kp e
  · exact bk_km_ne k.b k.m.ld.kt e
  · exact bk_km_ne k.b k.m.ld.kv e
theorem QAt.ref (k : QAt w W ob cs g bp bt bv gr A c L R) (hf : Fr (fun j => j = gr) W W') {A' : Option Addr} {c' : Nat} {R' : Rdr} (hr : RdL W' w.heap.size gr A' c' R') : QAt w W' ob cs g bp bt bv gr A' c' L R' := by
  refine ⟨⟨k.m.ld.fr hf (fun e => ?_) (fun e => ?_) (fun e => ?_) (fun e => ?_), hr, k.m.fr.step hf fun i hi e => by have := k.m.rd.b0; omega⟩, k.b.fr hf fun e => ?_⟩
  · exact Bk.apart k.m.ld.bk k.m.rd.bk (by decide) e
  · exact bk_km_ne k.m.rd.bk k.m.ld.kp e.symm
  · exact bk_km_ne k.m.rd.bk k.m.ld.kt e.symm
  · exact bk_km_ne k.m.rd.bk k.m.ld.kv e.symm
  · exact Bk.apart k.b k.m.rd.bk (by decide) e
/-- a row of votes of the law's own is turned. -/
theorem QAt.side (k : QAt w W ob cs g bp bt bv gr A c L R) {gv : Nat} {cv : Array Value} (hb : Bk W gv 40 cv) (hg : w.heap.size ≤ gv) (hf : Fr (fun j => j = gv) W W') : QAt w W' ob cs g bp bt bv gr A c L R := by
  refine ⟨⟨k.m.ld.fr hf (fun e => ?_) (fun e => ?_) (fun e => ?_) (fun e => ?_), k.m.rd.fr hf (fun e => ?_) (fun j hj e => ?_), k.m.fr.step hf fun i hi e => by omega⟩, k.b.fr hf fun e => ?_⟩
  · exact Bk.apart k.m.ld.bk hb (by decide) e
  · exact bk_km_ne hb k.m.ld.kp e.symm
  · exact bk_km_ne hb k.m.ld.kt e.symm
  · exact bk_km_ne hb k.m.ld.kv e.symm
  · exact Bk.apart k.m.rd.bk hb (by decide) e
  · obtain ⟨_, cur, hb2⟩ := k.m.rd.blk hj
    exact Bk.apart hb2 hb (by decide) e
  · exact Bk.apart k.b hb (by decide) e
/-- the row of votes of the law's own, while calls turn other blocks. -/
theorem vrow_own (k : QAt w W ob cs g bp bt bv gr A c L R) {C : Nat → Prop} (hf : Fr C W W') (hC : ∀ j, C j → j = g ∨ j = bp ∨ j = bt ∨ j = bv) {base n : Nat} {v : Value} {xs : List Value} (h : W.ownsRow base 40 3 v n xs) : W'.ownsRow base 40 3 v n xs := by
  refine own_fr h hf fun j hj hc => ?_
  rcases h.2 with ⟨rfl, _⟩ | ⟨g', cap, cur, rfl, _, hh, _⟩
  · cases hj
  · have e : g' = j := by simpa [Value.ownBlock] using hj
    subst e
    rcases hC _ hc with e | e | e | e
    · exact Bk.apart hh k.m.ld.bk (by decide) e
    · exact bk_km_ne hh k.m.ld.kp e
    · exact bk_km_ne hh k.m.ld.kt e
    · exact bk_km_ne hh k.m.ld.kv e
theorem vrow_ref (k : QAt w W ob cs g bp bt bv gr A c L R) (hf : Fr (fun j => j = gr) W W') {base n : Nat} {v : Value} {xs : List Value} (h : W.ownsRow base 40 3 v n xs) : W'.ownsRow base 40 3 v n xs :=
  own_fr h hf fun j hj hc => own_apart h k.m.rd.bk (by decide) (by rw [hj, hc])
theorem vrow_apart (k : QAt w W ob cs g bp bt bv gr A c L R) {base n c2 : Nat} {A2 : Option Addr} {xs : List Value} (h : W.ownsRow base 40 3 (.slice A2 n c2) n xs) : ∀ j, ablk A2 j → ¬ PrBS g bp bv j := by
  rintro j ⟨a, rfl, rfl⟩ hc
  rcases h.2 with ⟨hv, _⟩ | ⟨g', cap, cur, hv, _, hh, _⟩
  · cases hv
  · injection hv with hv
    injection hv with hv
    subst hv
    rcases hc with e | e | e
    · exact Bk.apart hh k.m.ld.bk (by decide) e
    · exact bk_km_ne hh k.m.ld.kp e
    · exact bk_km_ne hh k.m.ld.kv e
end
/-- a row of votes of the law's own, as a block. -/
theorem vrow_blk {w : World} {base n c2 : Nat} {A2 : Option Addr} {xs : List Value} (h : w.ownsRow base 40 3 (.slice A2 n c2) n xs) (hn : 0 < n) : ∃ gv cur, A2 = some ⟨gv, 0, none⟩ ∧ base ≤ gv ∧ Bk w gv 40 cur ∧ n * 3 ≤ cur.size := by
  rcases h.2 with ⟨_, h0⟩ | ⟨g', cap, cur, hv, hb, hh, hc, _, hs, _⟩
  · omega
  · injection hv with hv h2 h3
    exact ⟨g', cur, hv, hb, hh, by omega⟩
theorem tup_form (o : Option ByteArray) : ∃ (s : ByteArray) (b : Bool), tupS o = .tuple #[.string s, .bool b] := by
  cases o with
  | none => exact ⟨⟨#[]⟩, false, rfl⟩
  | some u => exact ⟨u, true, rfl⟩
theorem RdL.low {w : World} {B B' g c : Nat} {A : Option Addr} {R : Rdr} (h : RdL w B g A c R) (hb : B' ≤ B) : RdL w B' g A c R := ⟨h.bk, own_base h.own hb, Nat.le_trans hb h.b0, h.vo, h.sl, h.ho⟩
end Go.Proofs.Ytimfinpifngdiaa
