/- A voter of numbers among blocks that stay as they are, as a law holds it. No condition. -/
import Derived.Test.YteeeokofampdeaaVoK
import Derived.Test.YteeeokofampdeaaPrU

namespace Go.Proofs.Yteeeokofampdeaa
open Go.RowKit Go.Shelf
/-- since W: a voter at block g; the blocks K are none of its. -/
def VoKU (W : World) (K : Nat → Prop) (g gt p : Nat) (xs : List ItU) (w : World) : Prop :=
  ∃ O, VoU w W.heap.size g gt O p xs ∧ Fr NoBlk W w ∧ ∀ b, K b → b < w.heap.size ∧ b ≠ g ∧ ¬ O b
section
variable {W w w' : World} {K K' : Nat → Prop} {g gt p : Nat} {xs : List ItU}
theorem VoKU.sub (h : VoKU W K g gt p xs w) (hk : ∀ b, K' b → K b) : VoKU W K' g gt p xs w := by
  obtain ⟨O, h1, h2, h3⟩ := h
  exact ⟨O, h1, h2, fun b hb => h3 b (hk b hb)⟩
theorem VoKU.fr (h : VoKU W K g gt p xs w) : Fr NoBlk W w := by obtain ⟨O, _, h2, _⟩ := h; exact h2
theorem VoKU.nofr (h : VoKU W K g gt p xs w) (hf : Fr NoBlk w w') : VoKU W K g gt p xs w' := by
  obtain ⟨O, h1, h2, h3⟩ := h
  exact ⟨O, h1.nofr hf, h2.trans hf, fun b hb => ⟨by have := (h3 b hb).1; have := hf.size; omega, (h3 b hb).2⟩⟩
theorem VoKU.made (h : VoKU W K g gt p xs w) (o : Obj) : VoKU W (fun b => K b ∨ b = w.heap.size) g gt p xs (w.alloc o) := by
  obtain ⟨O, h1, h2, h3⟩ := h
  refine ⟨O, h1.nofr ((Fr.refl _ _).alloc _), h2.alloc _, fun b hb => ?_⟩
  rw [World.size_alloc]
  rcases hb with hb | rfl
  · exact ⟨by have := (h3 b hb).1; omega, (h3 b hb).2⟩
  · exact ⟨by omega, fun e => by have := h1.bk.lt; omega, fun e => by have := h1.tr.lt e; omega⟩
theorem VoKU.ok (h : VoKU W K g gt p xs w) : ∀ x ∈ xs, x.2.slot = x.1 ∧ 0 ≤ x.1 ∧ x.1 < 64 := by obtain ⟨O, h1, _⟩ := h; exact h1.ok
theorem VoKU.up (h : VoKU W K g gt p xs w) : UpI ltI xs := by obtain ⟨O, h1, _⟩ := h; exact h1.tr.up
theorem VoKU.len (h : VoKU W K g gt p xs w) : xs.length ≤ 64 := by obtain ⟨O, h1, _⟩ := h; exact h1.len
end
theorem voku_new {W w : World} {K : Nat → Prop} (hf : Fr NoBlk W w) (hK : ∀ b, K b → b < w.heap.size) : Calls Try.prog 17 #[] w fun e w' => ∃ g gt, e = .returned (.pointer (some ⟨g, 0, none⟩)) ∧ VoKU W K g gt 0 [] w' ∧ Keep K w w' := by
  refine (vnewU_any w).mono ?_
  rintro e w1 ⟨g, gt, O, rfl, h1, h2⟩
  refine ⟨g, gt, rfl, ⟨O, h1.low hf.size, hf.trans h2, fun b hb => ⟨by have := hK b hb; have := h2.size; omega, fun e => by have := hK b hb; have := h1.ge.1; omega, fun e => by have := hK b hb; have := h1.ge.2 b e; omega⟩⟩, h2.keep fun k hk => ⟨hK k hk, fun e => e⟩⟩
theorem VoKU.prom {W w : World} {K : Nat → Prop} {g gt p : Nat} {xs : List ItU} (h : VoKU W K g gt p xs w) (bal : Nat) (fr : Int) :
    Calls Try.prog 18 #[.pointer (some ⟨g, 0, none⟩), .int .u64 (bal : Int), .int .i64 fr] w fun e w' => Keep K w w' ∧
      ((bal < p ∧ e = .returned (.tuple #[.slice none 0 0, .bool false]) ∧ VoKU W K g gt p xs w') ∨
       (p ≤ bal ∧ ∃ A c, e = .returned (.tuple #[.slice A (geL ltI fr xs).length c, .bool true]) ∧ w'.ownsRow w.heap.size 58 3 (.slice A (geL ltI fr xs).length c) (geL ltI fr xs).length (valsU (geL ltI fr xs)) ∧ VoKU W K g gt bal xs w')) := by
  have h0 := h
  obtain ⟨O, h1, h2, h3⟩ := h
  refine (vpromiseU_any w _ g gt O p xs h1 bal fr).mono ?_
  intro e w' hp
  unfold PromPostU at hp
  split at hp
  · rename_i hb
    exact ⟨hp.2.keep fun k hk => ⟨(h3 k hk).1, fun e => e⟩, .inl ⟨hb, hp.1, h0.nofr hp.2⟩⟩
  · rename_i hb
    obtain ⟨A, c, rfl, k1, k2, k3⟩ := hp
    refine ⟨k3.keep fun k hk => ⟨(h3 k hk).1, fun e => (h3 k hk).2.1 e⟩, .inr ⟨by omega, A, c, rfl, k1, O, k2, h2.step k3 (fun i hi e => by have := h1.ge.1; omega), fun b hb => ⟨by have := (h3 b hb).1; have := k3.size; omega, (h3 b hb).2⟩⟩⟩
theorem VoKU.acc {W w : World} {K : Nat → Prop} {g gt p : Nat} {xs : List ItU} (h : VoKU W K g gt p xs w) (v : VaU) :
    Calls Try.prog 19 #[.pointer (some ⟨g, 0, none⟩), .agg #[.int .i64 v.slot, .int .u64 (v.bal : Int), .int .i64 v.val]] w fun e w' => Keep K w w' ∧ e = .returned (.bool (takesU p v)) ∧ VoKU W K g gt (if takesU p v then v.bal else p) (if takesU p v then putL ltI v.slot v xs else xs) w' := by
  obtain ⟨O, h1, h2, h3⟩ := h
  refine (vacceptU_any w _ g gt O p xs h1 v).mono ?_
  rintro e w' ⟨rfl, O', k1, k2, k3⟩
  refine ⟨k3.keep fun k hk => ⟨(h3 k hk).1, fun e => ?_⟩, rfl, O', k1, h2.step k3 (fun i hi e => ?_), fun b hb => ⟨by have := (h3 b hb).1; have := k3.size; omega, (h3 b hb).2.1, fun e => ?_⟩⟩
  · rcases e with e | e
    · exact (h3 k hk).2.1 e
    · exact (h3 k hk).2.2 e
  · rcases e with e | e
    · have := h1.ge.1; omega
    · have := h1.ge.2 i e; omega
  · rcases k2 b e with e | e
    · exact (h3 b hb).2.2 e
    · have := (h3 b hb).1; omega
theorem VoKU.promised {W w : World} {K : Nat → Prop} {g gt p : Nat} {xs : List ItU} (h : VoKU W K g gt p xs w) : Calls Try.prog 20 #[.pointer (some ⟨g, 0, none⟩)] w fun e w' => e = .returned (.int .u64 (p : Int)) ∧ w = w' := by
  obtain ⟨O, h1, _⟩ := h
  exact vpromisedU_any w _ g gt O p xs h1
theorem VoKU.votes {W w : World} {K : Nat → Prop} {g gt p : Nat} {xs : List ItU} (h : VoKU W K g gt p xs w) : Calls Try.prog 21 #[.pointer (some ⟨g, 0, none⟩)] w fun e w' => ∃ A c, e = .returned (.slice A xs.length c) ∧ w'.ownsRow w.heap.size 58 3 (.slice A xs.length c) xs.length (valsU xs) ∧ Fr NoBlk w w' := by
  obtain ⟨O, h1, _⟩ := h
  exact vvotesU_any w _ g gt O p xs h1
theorem VoKU.bk {W w : World} {K : Nat → Prop} {g gt p : Nat} {xs : List ItU} (h : VoKU W K g gt p xs w) : Bk w g 76 #[.int .u64 (p : Int), .pointer (some ⟨gt, 0, none⟩)] := by obtain ⟨O, h1, _⟩ := h; exact h1.bk
/-- a store into a kept block. -/
theorem VoKU.put {W w w' : World} {K : Nat → Prop} {g gt p : Nat} {xs : List ItU} (h : VoKU W K g gt p xs w) {q : Nat} (hq : K q) (hw : W.heap.size ≤ q) (hf : Fr (fun b => b = q) w w') : VoKU W K g gt p xs w' := by
  obtain ⟨O, h1, h2, h3⟩ := h
  refine ⟨O, h1.fr hf (fun e => (h3 q hq).2.1 e.symm) (fun b hb e => (h3 q hq).2.2 (e ▸ hb)), h2.step hf (fun i hi e => by omega), fun b hb => ⟨by have := (h3 b hb).1; have := hf.size; omega, (h3 b hb).2⟩⟩
end Go.Proofs.Yteeeokofampdeaa
