/- A voter among blocks that stay as they are (K), as a law holds it; the document's example holds of the program's voter. No condition. -/
import Derived.Test.YteeeokofampdeaaPrT

namespace Go.Proofs.Yteeeokofampdeaa
open Go.RowKit Go.Shelf
/-- since W: a voter at block g; the blocks K are none of its. -/
def VoK (W : World) (K : Nat → Prop) (g gt p : Nat) (xs : List ItT) (w : World) : Prop :=
  ∃ O, VoT w W.heap.size g gt O p xs ∧ Fr NoBlk W w ∧ ∀ b, K b → b < w.heap.size ∧ b ≠ g ∧ ¬ O b
section
variable {W w w' : World} {K K' : Nat → Prop} {g gt p : Nat} {xs : List ItT}
theorem VoK.sub (h : VoK W K g gt p xs w) (hk : ∀ b, K' b → K b) : VoK W K' g gt p xs w := by
  obtain ⟨O, h1, h2, h3⟩ := h
  exact ⟨O, h1, h2, fun b hb => h3 b (hk b hb)⟩
theorem VoK.fr (h : VoK W K g gt p xs w) : Fr NoBlk W w := by obtain ⟨O, _, h2, _⟩ := h; exact h2
theorem VoK.nofr (h : VoK W K g gt p xs w) (hf : Fr NoBlk w w') : VoK W K g gt p xs w' := by
  obtain ⟨O, h1, h2, h3⟩ := h
  exact ⟨O, h1.nofr hf, h2.trans hf, fun b hb => ⟨by have := (h3 b hb).1; have := hf.size; omega, (h3 b hb).2⟩⟩
theorem VoK.made (h : VoK W K g gt p xs w) (o : Obj) : VoK W (fun b => K b ∨ b = w.heap.size) g gt p xs (w.alloc o) := by
  obtain ⟨O, h1, h2, h3⟩ := h
  refine ⟨O, h1.nofr ((Fr.refl _ _).alloc _), h2.alloc _, fun b hb => ?_⟩
  rw [World.size_alloc]
  rcases hb with hb | rfl
  · exact ⟨by have := (h3 b hb).1; omega, (h3 b hb).2⟩
  · exact ⟨by omega, fun e => by have := h1.bk.lt; omega, fun e => by have := h1.tr.lt e; omega⟩
theorem VoK.ok (h : VoK W K g gt p xs w) : ∀ x ∈ xs, x.2.slot = x.1 ∧ 0 ≤ x.1 ∧ x.1 < 64 := by obtain ⟨O, h1, _⟩ := h; exact h1.ok
theorem VoK.up (h : VoK W K g gt p xs w) : UpI ltI xs := by obtain ⟨O, h1, _⟩ := h; exact h1.tr.up
theorem VoK.len (h : VoK W K g gt p xs w) : xs.length ≤ 64 := by obtain ⟨O, h1, _⟩ := h; exact h1.len
end
theorem vok_new {W w : World} {K : Nat → Prop} (hf : Fr NoBlk W w) (hK : ∀ b, K b → b < w.heap.size) : Calls Try.prog 8 #[] w fun e w' => ∃ g gt, e = .returned (.pointer (some ⟨g, 0, none⟩)) ∧ VoK W K g gt 0 [] w' ∧ Keep K w w' := by
  refine (vnewT_any w).mono ?_
  rintro e w1 ⟨g, gt, O, rfl, h1, h2⟩
  refine ⟨g, gt, rfl, ⟨O, h1.low hf.size, hf.trans h2, fun b hb => ⟨by have := hK b hb; have := h2.size; omega, fun e => by have := hK b hb; have := h1.ge.1; omega, fun e => by have := hK b hb; have := h1.ge.2 b e; omega⟩⟩, h2.keep fun k hk => ⟨hK k hk, fun e => e⟩⟩
/-- how the cells of a list that is the call's own are read. -/
theorem own_cells {w : World} {base : Nat} {e : TypeId} {size n : Nat} {v : Value} {xs : List Value} (h : w.ownsRow base e size v n xs) : Rd w (match v with | .slice A _ _ => A | _ => none) xs ∧ ∀ u, xs[0]? = some u → ∃ b c, v = .slice (some ⟨b, 0, none⟩) n c ∧ ∀ j u, xs[j]? = some u → w.cell? ⟨b, j, none⟩ = some u := by
  rcases h.2 with ⟨hv, rfl⟩ | ⟨g, cap, cur, rfl, _, hh, hnc, hsz, hcs, htake⟩
  · have h1 := h.1
    have : xs = [] := List.eq_nil_of_length_eq_zero (by simpa using h1)
    subst this
    exact ⟨fun h => absurd h (by simp), fun u hu => by cases hu⟩
  · have hall : ∀ j u, xs[j]? = some u → w.cell? ⟨g, j, none⟩ = some u := fun j u hu => by
      rw [cell_of_row _ _ _ _ _ _ hh]
      have hl := (List.getElem?_eq_some_iff.1 hu).1
      rw [← htake, List.getElem?_take] at hu
      split at hu
      · simpa using hu
      · cases hu
    exact ⟨fun _ => ⟨g, 0, rfl, fun j u hu => by rw [Nat.zero_add]; exact hall j u hu⟩, fun u _ => ⟨g, cap, rfl, hall⟩⟩
theorem VoK.prom {W w : World} {K : Nat → Prop} {g gt p : Nat} {xs : List ItT} (h : VoK W K g gt p xs w) (bal : Nat) (fr : Int) :
    Calls Try.prog 9 #[.pointer (some ⟨g, 0, none⟩), .int .u64 (bal : Int), .int .i64 fr] w fun e w' => Keep K w w' ∧
      ((bal < p ∧ e = .returned (.tuple #[.slice none 0 0, .bool false]) ∧ VoK W K g gt p xs w') ∨
       (p ≤ bal ∧ ∃ A c, e = .returned (.tuple #[.slice A (geL ltI fr xs).length c, .bool true]) ∧ w'.ownsRow w.heap.size 43 3 (.slice A (geL ltI fr xs).length c) (geL ltI fr xs).length (valsT (geL ltI fr xs)) ∧ VoK W K g gt bal xs w')) := by
  have h0 := h
  obtain ⟨O, h1, h2, h3⟩ := h
  refine (vpromiseT_any w _ g gt O p xs h1 bal fr).mono ?_
  intro e w' hp
  unfold PromPostT at hp
  split at hp
  · rename_i hb
    exact ⟨hp.2.keep fun k hk => ⟨(h3 k hk).1, fun e => e⟩, .inl ⟨hb, hp.1, h0.nofr hp.2⟩⟩
  · rename_i hb
    obtain ⟨A, c, rfl, k1, k2, k3⟩ := hp
    refine ⟨k3.keep fun k hk => ⟨(h3 k hk).1, fun e => (h3 k hk).2.1 e⟩, .inr ⟨by omega, A, c, rfl, k1, O, k2, h2.step k3 (fun i hi e => by have := h1.ge.1; omega), fun b hb => ⟨by have := (h3 b hb).1; have := k3.size; omega, (h3 b hb).2⟩⟩⟩
theorem VoK.acc {W w : World} {K : Nat → Prop} {g gt p : Nat} {xs : List ItT} (h : VoK W K g gt p xs w) (v : VaT) :
    Calls Try.prog 12 #[.pointer (some ⟨g, 0, none⟩), .agg #[.int .i64 v.slot, .int .u64 (v.bal : Int), .string (bstr v.val)]] w fun e w' => Keep K w w' ∧ e = .returned (.bool (takesT p v)) ∧ VoK W K g gt (if takesT p v then v.bal else p) (if takesT p v then putL ltI v.slot v xs else xs) w' := by
  obtain ⟨O, h1, h2, h3⟩ := h
  refine (vacceptT_any w _ g gt O p xs h1 v).mono ?_
  rintro e w' ⟨rfl, O', k1, k2, k3⟩
  refine ⟨k3.keep fun k hk => ⟨(h3 k hk).1, fun e => ?_⟩, rfl, O', k1, h2.step k3 (fun i hi e => ?_), fun b hb => ⟨by have := (h3 b hb).1; have := k3.size; omega, (h3 b hb).2.1, fun e => ?_⟩⟩
  · rcases e with e | e
    · exact (h3 k hk).2.1 e
    · exact (h3 k hk).2.2 e
  · rcases e with e | e
    · have := h1.ge.1; omega
    · have := h1.ge.2 i e; omega
  · rcases k2 b e with e | e
    · exact (h3 b hb).2.2 e
    · have := (h3 b hb).1; omega
set_option maxRecDepth 100000 in
set_option maxHeartbeats 1000000 in
theorem speaks_any (w : World) : Calls Try.prog 7 #[] w fun e w' => e = .returned (.bool true) ∧ Fr NoBlk w w' := by
  have HN := Lib.hid (vok_new (W := w) (K := fun _ => False) (Fr.refl _ w) fun _ h => h.elim)
  go_enter Try.func7, Try.ntmps7
  go_wp2_with fail
  refine HN.out.mono ?_
  clear HN
  rintro e w1 ⟨g, gt, rfl, h1, _⟩
  have HP : Hid (Calls Try.prog 9 #[.pointer (some ⟨g, 0, none⟩), .int .u64 5, .int .i64 0] w1 _) := h1.prom 5 0
  clear h1
  go_wp2_with fail
  refine HP.out.mono ?_
  clear HP
  rintro e w2 ⟨_, ⟨hb, _⟩ | ⟨_, A2, c2, rfl, _, h2⟩⟩
  · exact absurd hb (by omega)
  have HP : Hid (Calls Try.prog 12 #[.pointer (some ⟨g, 0, none⟩), .agg #[.int .i64 0, .int .u64 4, .string { data := #[119] }]] w2 fun e w' => e = .returned (.bool false) ∧ VoK w (fun _ => False) g gt 5 [] w') := (h2.acc ⟨0, 4, [119]⟩).mono fun e w' h => ⟨h.2.1, h.2.2⟩
  clear h2
  go_wp2_with fail
  refine HP.out.mono ?_
  clear HP
  rintro e w3 ⟨rfl, h3⟩
  have HP : Hid (Calls Try.prog 12 #[.pointer (some ⟨g, 0, none⟩), .agg #[.int .i64 0, .int .u64 5, .string { data := #[120] }]] w3 fun e w' => e = .returned (.bool true) ∧ VoK w (fun _ => False) g gt 5 [(0, ⟨0, 5, [120]⟩)] w') := (h3.acc ⟨0, 5, [120]⟩).mono fun e w' h => ⟨h.2.1, h.2.2⟩
  clear h3
  go_wp2_with fail
  refine HP.out.mono ?_
  clear HP
  rintro e w4 ⟨rfl, h4⟩
  have HP : Hid (Calls Try.prog 9 #[.pointer (some ⟨g, 0, none⟩), .int .u64 7, .int .i64 0] w4 fun e w' => ∃ A c, e = .returned (.tuple #[.slice A 1 c, .bool true]) ∧ w'.ownsRow w4.heap.size 43 3 (.slice A 1 c) 1 [.int .i64 0, .int .u64 5, .string (bstr [120])] ∧ Fr NoBlk w w') := (h4.prom 7 0).mono fun e w' h => by
    rcases h.2 with ⟨hb, _⟩ | ⟨_, A, c, h1, h2, h3⟩
    · exact absurd hb (by omega)
    · exact ⟨A, c, h1, h2, h3.fr⟩
  clear h4
  go_wp2_with fail
  refine HP.out.mono ?_
  clear HP
  rintro e w5 ⟨A, c, rfl, ho, hf⟩
  have HF := Lib.hid hf
  obtain ⟨b, c', e1, hc⟩ := (own_cells ho).2 _ rfl
  injection e1 with e1 _ _
  subst e1
  have c1 : w5.cell? ⟨b, 1, none⟩ = some (.int .u64 5) := hc 1 _ rfl
  have c2 : w5.cell? ⟨b, 2, none⟩ = some (.string { data := #[120] }) := hc 2 _ rfl
  clear hc ho hf
  go_wp2_with fail
  go_ret
  exact ⟨by simp, HF.out⟩
end Go.Proofs.Yteeeokofampdeaa
