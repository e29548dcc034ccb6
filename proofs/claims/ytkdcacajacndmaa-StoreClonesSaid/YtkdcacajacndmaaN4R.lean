/- Trees as the program has them: New, Put, Get, Len. Conditions: at most 100000 keys. -/
import Derived.Test.YtkdcacajacndmaaN2R
import Derived.Test.YtkdcacajacndmaaP3
import Derived.Deep.LoopGhost

namespace Go.Proofs.Ytkdcacajacndmaa
open Go.RowKit
section
variable {A V : Type} {lt : A → A → Bool}
theorem putL_len_no (L : Lin lt) {key : A} {v : V} {xs : List (A × V)} (h : ∀ u, (key, u) ∉ xs) : (putL lt key v xs).length = xs.length + 1 := by
  have key2 : ∀ ys : List (A × V), (∀ u, (key, u) ∉ ys) → (ys.filter fun p => lt p.1 key).length + (ys.filter fun p => lt key p.1).length = ys.length := by
    intro ys
    induction ys with
    | nil => intro _; rfl
    | cons y t ih =>
      intro hy
      have ht := ih fun u hu => hy u (List.mem_cons_of_mem _ hu)
      cases e : lt y.1 key with
      | true =>
        simp only [List.filter_cons, e, L.asymm e, if_true, List.length_cons]
        simp only [Bool.false_eq_true, if_false]
        omega
      | false =>
        have e2 : lt key y.1 = true := by
          cases e2 : lt key y.1 with
          | true => rfl
          | false => exact absurd (List.mem_cons_self) (by rw [← L.tot e e2] at hy; exact hy y.2)
        simp only [List.filter_cons, e, e2, if_true, List.length_cons]
        simp only [Bool.false_eq_true, if_false]
        omega
  unfold putL
  rw [List.length_append, List.length_cons]
  have := key2 xs h
  omega
theorem mem_split {key : A} {u : V} {xs : List (A × V)} (hm : (key, u) ∈ xs) : ∃ P Q, xs = P ++ [(key, u)] ++ Q := by
  obtain ⟨P, Q, e⟩ := List.append_of_mem hm
  exact ⟨P, Q, by rw [e]; simp⟩
theorem putL_len_yes (L : Lin lt) {key : A} {u v : V} {xs : List (A × V)} (hu : UpI lt xs) (hm : (key, u) ∈ xs) : (putL lt key v xs).length = xs.length := by
  obtain ⟨P, Q, rfl⟩ := mem_split hm
  obtain ⟨h1, h2⟩ := up_mid L hu
  rw [putL_mid L h1 h2, putL_at L]
  simp
theorem Lk.none_of {z v : V} {key : A} {xs : List (A × V)} (h : Lk z key xs false v) : ∀ u, (key, u) ∉ xs := by
  rcases h with ⟨h, _⟩ | ⟨_, _, h⟩
  · cases h
  · exact h
theorem Lk.some_of {z v : V} {key : A} {xs : List (A × V)} (h : Lk z key xs true v) : (key, v) ∈ xs := by
  rcases h with ⟨_, h⟩ | ⟨h, _⟩
  · exact h
  · cases h
end
theorem Stp.le {w w' : World} {o o' : Nat → Prop} (h : Stp w w' o o') {B : Nat} (hB : B ≤ w.heap.size) (ho : ∀ b, o b → B ≤ b) : ∀ b, o' b → B ≤ b := fun b hb => by
  rcases h.new b hb with h | h
  · exact ho b h
  · omega
/-- a tree in memory: block g; O are its blocks, g among them; xs is what it has. -/
def TreeR (w : World) (g : Nat) (O : Nat → Prop) (xs : List ItR) : Prop :=
  ∃ (d : Nat) (t : Tr ItR d), Bk w g 104 #[ptr t.g, .int .i64 xs.length] ∧ t.ok tkR w ∧ t.flat = xs ∧ UpI Op.bytesLess xs ∧ t.n ≤ 16 ∧ (d = 0 ∨ 1 ≤ t.n) ∧ ¬ t.own g ∧ ∀ b, O b ↔ (b = g ∨ t.own b)
section
variable {w w' : World} {g : Nat} {O C K : Nat → Prop} {xs : List ItR}
theorem TreeR.fr (h : TreeR w g O xs) (hf : Fr C w w') (hn : ∀ b, O b → ¬ C b) : TreeR w' g O xs := by
  obtain ⟨d, t, h1, h2, h3, h4, h5, h6, h7, h8⟩ := h
  exact ⟨d, t, h1.fr hf (hn _ ((h8 g).2 (.inl rfl))), h2.fr hf fun b hb => hn b ((h8 b).2 (.inr hb)), h3, h4, h5, h6, h7, h8⟩
theorem TreeR.nofr (h : TreeR w g O xs) (hf : Fr NoBlk w w') : TreeR w' g O xs := h.fr hf fun _ _ e => e
theorem TreeR.kept (h : TreeR w g O xs) (hk : Keep K w w') (hn : ∀ b, O b → K b) : TreeR w' g O xs := by
  obtain ⟨d, t, h1, h2, h3, h4, h5, h6, h7, h8⟩ := h
  exact ⟨d, t, h1.kept hk (hn _ ((h8 g).2 (.inl rfl))), ⟨Tr.lies_kept hk h2.lies fun b hb => hn b ((h8 b).2 (.inr hb)), h2.sep, h2.shape⟩, h3, h4, h5, h6, h7, h8⟩
theorem TreeR.lt (h : TreeR w g O xs) {b : Nat} (hb : O b) : b < w.heap.size := by
  obtain ⟨d, t, h1, h2, h3, h4, h5, h6, h7, h8⟩ := h
  rcases (h8 b).1 hb with rfl | hb
  · exact h1.lt
  · exact h2.lt hb
theorem TreeR.up (h : TreeR w g O xs) : UpI Op.bytesLess xs := by obtain ⟨d, t, h1, h2, h3, h4, _⟩ := h; exact h4
theorem TreeR.self (h : TreeR w g O xs) : O g := by obtain ⟨d, t, h1, h2, h3, h4, h5, h6, h7, h8⟩ := h; exact (h8 g).2 (.inl rfl)
end
set_option maxRecDepth 100000 in
theorem newR_any (w : World) : Calls Try.prog 32 #[] w fun e w' => ∃ g O, e = .returned (.pointer (some ⟨g, 0, none⟩)) ∧ TreeR w' g O [] ∧ (∀ b, O b → w.heap.size ≤ b) ∧ Fr NoBlk w w' := by
  obtain ⟨w1, hw1⟩ : ∃ w1, w1 = w.alloc (.cells #[.slice none 0 0, .slice none 0 0] 102) := ⟨_, rfl⟩
  have hz : w1.heap.size = w.heap.size + 1 := by rw [hw1, World.size_alloc]
  obtain ⟨w2, hw2⟩ : ∃ w2, w2 = w1.alloc (.cells #[.pointer (some ⟨w.heap.size, 0, none⟩), .int .i64 0] 104) := ⟨_, rfl⟩
  have hb1 : Bk w1 w.heap.size 102 #[.slice none 0 0, .slice none 0 0] := by rw [hw1]; exact Bk.new _ _ _
  have hb2 : Bk w2 (w.heap.size + 1) 104 #[.pointer (some ⟨w.heap.size, 0, none⟩), .int .i64 0] := by rw [hw2, ← hz]; exact Bk.new _ _ _
  have hf : Fr NoBlk w w2 := by rw [hw2, hw1]; exact ((Fr.refl _ _).alloc _).alloc _
  have HT : Hid (TreeR w2 (w.heap.size + 1) (fun b => b = w.heap.size + 1 ∨ b = w.heap.size) []) := by
    refine ⟨0, .leaf ⟨w.heap.size, none, 0, none, 0, []⟩, hb2, ⟨Hd.lies_mk (by rw [hw2]; exact hb1.alloc _) (RowW.nil _ _ _ _) (RowW.nil _ _ _ _) rfl rfl rfl rfl, trivial, trivial⟩, rfl, List.Pairwise.nil, Nat.zero_le _, .inl rfl, ?_, fun b => ?_⟩
    · rintro (h | ⟨_, h, _⟩ | ⟨_, h, _⟩)
      · have h2 : w.heap.size + 1 = w.heap.size := h
        omega
      · cases h
      · cases h
    · constructor
      · rintro (h | h)
        · exact .inl h
        · exact .inr (.inl h)
      · rintro (h | h | ⟨_, h, _⟩ | ⟨_, h, _⟩)
        · exact .inl h
        · exact .inr h
        · cases h
        · cases h
  have HF := Lib.hid hf
  have HE : Hid ((w.alloc (.cells #[.slice none 0 0, .slice none 0 0] 102)).alloc (.cells #[.pointer (some ⟨w.heap.size, 0, none⟩), .int .i64 0] 104) = w2) := by show _ = _; rw [hw2, hw1]
  clear hw1 hz hw2 hb1 hb2 hf
  go_enter Try.func32, Try.ntmps32
  go_wp2_with fail
  go_ret
  refine ⟨w.heap.size + 1, _, ?_, HE.out ▸ HT.out, fun b hb => ?_, HE.out ▸ HF.out⟩
  · simp
  · rcases hb with rfl | rfl <;> omega
def TreePutR (w : World) (g : Nat) (O : Nat → Prop) (xs : List ItR) (key : Bs) (v : VaR) (e : Ending) (w' : World) : Prop :=
  ∃ (old : VaR) (had : Bool) (O' : Nat → Prop), e = .returned (.tuple #[.agg #[.bool old.has, .slice old.va old.vn old.vc, .int .i64 old.home, .int .u64 (old.count : Int)], .bool had]) ∧ Lk (VaR.mk false none 0 0 0 0 : VaR) key xs had old ∧ TreeR w' g O' (putL Op.bytesLess key v xs) ∧ Stp w w' O O'
theorem PutRPost.from_ {w W W' : World} {d : Nat} {t : Tr ItR d} {key : Bs} {v : VaR} {e : Ending} (h : PutRPost W t key v e W') (hf : Fr NoBlk w W) : PutRPost w t key v e W' := by
  obtain ⟨old, had, t', h1, h2, h3, h4, h5, h6, h7, h8, h9⟩ := h
  refine ⟨old, had, t', h1, h2, h3, h4, h5, h6, h7, h8, ⟨(hf.mono fun _ _ h => h.elim).trans h9.fr, fun b hb => ?_⟩⟩
  rcases h9.new b hb with h | h
  · exact .inl h
  · exact .inr (Nat.le_trans hf.size h)
theorem TreePutR.box {w W W' : World} {g : Nat} {O : Nat → Prop} {xs : List ItR} {key : Bs} {v : VaR} {e : Ending} {q : Nat} {cs : Array Value} (h : TreePutR w g O xs key v e W) (hf : Fr (fun b => b = q) W W') (hq : Bk W q 38 cs) (hl : w.heap.size ≤ q) : TreePutR w g O xs key v e W' := by
  obtain ⟨old, had, O', h1, h2, h3, h4⟩ := h
  have hn : ∀ b, O' b → ¬ b = q := by
    obtain ⟨d, t, k1, k2, _, _, _, _, _, k8⟩ := h3
    intro b hb e
    subst e
    rcases (k8 b).1 hb with e | e
    · subst e
      unfold Bk at hq k1
      rw [hq] at k1
      injection k1 with k1
      injection k1 with _ k1 _
      exact absurd k1 (by decide)
    · exact Tr.not_own k2.lies hq (by decide) (by decide) (by decide) e
  refine ⟨old, had, O', h1, h2, h3.fr hf hn, ⟨h4.fr.step hf fun i hi e => by omega, h4.new⟩⟩
theorem PutRPost.stp {w w' : World} {d : Nat} {t : Tr ItR d} {key : Bs} {v : VaR} {e : Ending} (h : PutRPost w t key v e w') : Fr t.own w w' := by
  obtain ⟨old, had, t', h1, h2, h3, h4, h5, h6, h7, h8, h9⟩ := h
  exact h9.fr
set_option maxRecDepth 100000 in
set_option maxHeartbeats 4000000 in
theorem treePutR_any (w : World) (g : Nat) (O : Nat → Prop) (xs : List ItR) (h : TreeR w g O xs) (hlen : xs.length ≤ 100000) (key : Bs) (v : VaR) :
    Calls Try.prog 69 #[.pointer (some ⟨g, 0, none⟩), .string (bstr key), .agg #[.bool v.has, .slice v.va v.vn v.vc, .int .i64 v.home, .int .u64 (v.count : Int)]] w (TreePutR w g O xs key v) := by
  obtain ⟨d, t, h1, ho, rfl, hu, hn, hd, hg, hO⟩ := h
  have c0 : w.cell? ⟨g, 0, none⟩ = some (.pointer (some ⟨t.g, 0, none⟩)) := h1.cell 0
  obtain ⟨q5, hq5⟩ : ∃ q, q = w.heap.size := ⟨_, rfl⟩
  obtain ⟨w0, hw0⟩ : ∃ w0, w0 = (w.alloc (.cells #[.bool v.has, .slice v.va v.vn v.vc, .int .i64 v.home, .int .u64 (v.count : Int)] 38)).alloc (.cells #[.bool false, .slice none 0 0, .int .i64 0, .int .u64 0] 38) := ⟨_, rfl⟩
  have hf0 : Fr NoBlk w w0 := by rw [hw0]; exact ((Fr.refl _ _).alloc _).alloc _
  have hz0 : w0.heap.size = q5 + 2 := by rw [hw0, World.size_alloc, World.size_alloc, hq5]
  have HV5 : Hid (Bk w0 q5 38 #[.bool v.has, .slice v.va v.vn v.vc, .int .i64 v.home, .int .u64 (v.count : Int)]) := by show Bk _ _ _ _; rw [hw0, hq5]; exact (Bk.new _ _ _).alloc _
  have HV6 : Hid (Bk w0 (q5 + 1) 38 #[.bool false, .slice none 0 0, .int .i64 0, .int .u64 0]) := by show Bk _ _ _ _; rw [hw0, hq5]; have h := Bk.new (w.alloc (.cells #[.bool v.has, .slice v.va v.vn v.vc, .int .i64 v.home, .int .u64 (v.count : Int)] 38)) 38 #[.bool false, .slice none 0 0, .int .i64 0, .int .u64 0]; rw [World.size_alloc] at h; exact h
  have HP : Hid (∀ W, Fr NoBlk w0 W → Calls Try.prog 80 #[.pointer (some ⟨t.g, 0, none⟩), .string (bstr key), .agg #[.bool v.has, .slice v.va v.vn v.vc, .int .i64 v.home, .int .u64 (v.count : Int)]] W (fun e w' => PutRPost w t key v e w' ∧ Fr t.own W w')) := fun W hf => (putR_any key v W t (ho.fr (hf0.trans hf) fun _ _ h => h) hu hn).mono fun e w' h => ⟨h.from_ (hf0.trans hf), h.stp⟩
  have HGL : Hid (g < q5 ∧ w.heap.size = q5 ∧ (∀ b, t.own b → b < q5) ∧ w0.heap.size = q5 + 2) := ⟨by have := h1.lt; omega, hq5.symm, fun b hb => by have := ho.lt hb; omega, hz0⟩
  have c0a : w0.cell? ⟨g, 0, none⟩ = some (.pointer (some ⟨t.g, 0, none⟩)) := (h1.fr hf0 fun e => e).cell 0
  have H1 := Lib.hid h1
  have HO := Lib.hid ho
  have HU := Lib.hid hu
  have HN := Lib.hid hn
  have HD := Lib.hid hd
  have HG := Lib.hid hg
  have HOO := Lib.hid hO
  have HLEN := Lib.hid hlen
  have HF0 := Lib.hid hf0
  have HW0 := Lib.hid hw0
  have HQ5 := Lib.hid hq5
  clear h1 ho hu hn hd hg hO hlen c0 hf0 hw0 hq5 hz0
  obtain ⟨tg, htg⟩ : ∃ tg, tg = t.g := ⟨_, rfl⟩
  rw [← htg] at c0a HP
  have HTG := Lib.hid htg
  clear htg
  go_enter Try.func69, Try.ntmps69
  go_upto_region 1 with fail
  rw [← HW0.out, ← HQ5.out]
  clear HW0 HQ5
  have c0d : w0.drew.cell? ⟨g, 0, none⟩ = some (.pointer (some ⟨tg, 0, none⟩)) := c0a
  have v0 : w0.cell? ⟨q5, 0, none⟩ = some (.bool v.has) := HV5.out.cell 0
  have v1 : w0.cell? ⟨q5, 1, none⟩ = some (.slice v.va v.vn v.vc) := HV5.out.cell 1
  have v2 : w0.cell? ⟨q5, 2, none⟩ = some (.int .i64 v.home) := HV5.out.cell 2
  have v3 : w0.cell? ⟨q5, 3, none⟩ = some (.int .u64 (v.count : Int)) := HV5.out.cell 3
  have vd0 : w0.drew.cell? ⟨q5, 0, none⟩ = some (.bool v.has) := (HV5.out.fr (Fr.refl NoBlk _).drew fun e => e).cell 0
  have vd1 : w0.drew.cell? ⟨q5, 1, none⟩ = some (.slice v.va v.vn v.vc) := (HV5.out.fr (Fr.refl NoBlk _).drew fun e => e).cell 1
  have vd2 : w0.drew.cell? ⟨q5, 2, none⟩ = some (.int .i64 v.home) := (HV5.out.fr (Fr.refl NoBlk _).drew fun e => e).cell 2
  have vd3 : w0.drew.cell? ⟨q5, 3, none⟩ = some (.int .u64 (v.count : Int)) := (HV5.out.fr (Fr.refl NoBlk _).drew fun e => e).cell 3
  have ve0 : (w0.alloc (.cells #[.bool false, .slice none 0 0, .int .i64 0, .int .u64 0] 38)).cell? ⟨q5, 0, none⟩ = some (.bool v.has) := (HV5.out.alloc _).cell 0
  have ve1 : (w0.alloc (.cells #[.bool false, .slice none 0 0, .int .i64 0, .int .u64 0] 38)).cell? ⟨q5, 1, none⟩ = some (.slice v.va v.vn v.vc) := (HV5.out.alloc _).cell 1
  have ve2 : (w0.alloc (.cells #[.bool false, .slice none 0 0, .int .i64 0, .int .u64 0] 38)).cell? ⟨q5, 2, none⟩ = some (.int .i64 v.home) := (HV5.out.alloc _).cell 2
  have ve3 : (w0.alloc (.cells #[.bool false, .slice none 0 0, .int .i64 0, .int .u64 0] 38)).cell? ⟨q5, 3, none⟩ = some (.int .u64 (v.count : Int)) := (HV5.out.alloc _).cell 3
  have vf0 : (w0.alloc (.cells #[.bool false, .slice none 0 0, .int .i64 0, .int .u64 0] 38)).drew.cell? ⟨q5, 0, none⟩ = some (.bool v.has) := ((HV5.out.alloc _).fr (Fr.refl NoBlk _).drew fun e => e).cell 0
  have vf1 : (w0.alloc (.cells #[.bool false, .slice none 0 0, .int .i64 0, .int .u64 0] 38)).drew.cell? ⟨q5, 1, none⟩ = some (.slice v.va v.vn v.vc) := ((HV5.out.alloc _).fr (Fr.refl NoBlk _).drew fun e => e).cell 1
  have vf2 : (w0.alloc (.cells #[.bool false, .slice none 0 0, .int .i64 0, .int .u64 0] 38)).drew.cell? ⟨q5, 2, none⟩ = some (.int .i64 v.home) := ((HV5.out.alloc _).fr (Fr.refl NoBlk _).drew fun e => e).cell 2
  have vf3 : (w0.alloc (.cells #[.bool false, .slice none 0 0, .int .i64 0, .int .u64 0] 38)).drew.cell? ⟨q5, 3, none⟩ = some (.int .u64 (v.count : Int)) := ((HV5.out.alloc _).fr (Fr.refl NoBlk _).drew fun e => e).cell 3
  have c0e : (w0.alloc (.cells #[.bool false, .slice none 0 0, .int .i64 0, .int .u64 0] 38)).cell? ⟨g, 0, none⟩ = some (.pointer (some ⟨tg, 0, none⟩)) := by rw [HTG.out]; exact ((H1.out.fr HF0.out fun e => e).alloc _).cell 0
  have c0f : (w0.alloc (.cells #[.bool false, .slice none 0 0, .int .i64 0, .int .u64 0] 38)).drew.cell? ⟨g, 0, none⟩ = some (.pointer (some ⟨tg, 0, none⟩)) := c0e
  go_region_with (refine (HP.out _ (by first | exact (Fr.refl _ _).drew | exact ((Fr.refl _ _).alloc _).drew | exact (Fr.refl _ _).drew.alloc _)).mono ?_; rintro e wo ⟨⟨old, had, t', rfl, hlk, hok, hfl, hgg, hn1, hn2, hnh, hst⟩, hfo⟩; have HFO : Hid (Fr t.own w0 wo) := (by first | exact (Fr.refl t.own w0).drew.trans hfo | exact ((Fr.refl t.own w0).alloc _).drew.trans hfo | exact ((Fr.refl t.own w0).drew.alloc _).trans hfo); (try (have HB8 : Hid (Bk wo w0.heap.size 38 #[.bool false, .slice none 0 0, .int .i64 0, .int .u64 0]) := (by first | exact ((Bk.new w0 _ _).fr (Fr.refl NoBlk _).drew fun h => h).fr hfo (fun h => by have := HGL.out.2.2.1 _ h; have := HGL.out.2.2.2; omega) | exact (Bk.new w0.drew _ _).fr hfo (fun h => by have := HGL.out.2.2.1 _ h; have := HGL.out.2.2.2; omega)); have z0 : wo.cell? ⟨w0.heap.size, 0, none⟩ = some (.bool false) := HB8.out.cell 0; have zf0 := HB8.out.free 0; have z1 : wo.cell? ⟨w0.heap.size, 1, none⟩ = some (.slice none 0 0) := HB8.out.cell 1; have zf1 := HB8.out.free 1; have z2 : wo.cell? ⟨w0.heap.size, 2, none⟩ = some (.int .i64 0) := HB8.out.cell 2; have zf2 := HB8.out.free 2; have z3 : wo.cell? ⟨w0.heap.size, 3, none⟩ = some (.int .u64 0) := HB8.out.cell 3; have zf3 := HB8.out.free 3; skip)); have HPO := Lib.hid (And.intro hlk (And.intro hok (And.intro hfl (And.intro hgg (And.intro hn1 (And.intro hn2 (And.intro hnh hst))))))); clear hlk hok hfl hgg hn1 hn2 hnh hst hfo)
  all_goals
    clear HP c0a c0d c0e c0f v0 vd0 ve0 vf0 v1 vd1 ve1 vf1 v2 vd2 ve2 vf2 v3 vd3 ve3 vf3
    try clear z0 zf0
    try clear z1 zf1
    try clear z2 zf2
    try clear z3 zf3
    obtain ⟨hlk, hok, hfl, hgg, hn1, hn2, hnh, hst⟩ := HPO.out
    clear HPO
    first
    | (obtain ⟨w1, hw1⟩ : ∃ w1, w1 = wo.alloc (.cells #[.bool old.has, .slice old.va old.vn old.vc, .int .i64 old.home, .int .u64 (old.count : Int)] 38) := ⟨_, rfl⟩
       rw [← hw1]
       obtain ⟨q8, hq8⟩ : ∃ q, q = wo.heap.size := ⟨_, rfl⟩
       rw [← hq8]
       have hx8 : Fr (fun b => b = q8) wo w1 := by rw [hw1]; exact (Fr.refl _ wo).alloc _
       have hb8 : Bk w1 q8 38 #[.bool old.has, .slice old.va old.vn old.vc, .int .i64 old.home, .int .u64 (old.count : Int)] := by rw [hw1, hq8]; exact Bk.new _ _ _
       have hnq : ¬ t'.own q8 := fun h => by have := hok.lt h; omega
       have hlq : q5 + 2 ≤ q8 := by have := HGL.out.2.2.2; have := HFO.out.size; omega
       clear hw1 hq8)
    | (obtain ⟨w1, hw1⟩ : ∃ w1, w1 = ((((wo).setCell ⟨w0.heap.size, 0, none⟩ (.bool old.has)).setCell ⟨w0.heap.size, 1, none⟩ (.slice old.va old.vn old.vc)).setCell ⟨w0.heap.size, 2, none⟩ (.int .i64 old.home)).setCell ⟨w0.heap.size, 3, none⟩ (.int .u64 (old.count : Int)) := ⟨_, rfl⟩
       rw [← hw1]
       obtain ⟨q8, hq8⟩ : ∃ q, q = w0.heap.size := ⟨_, rfl⟩
       rw [← hq8]
       have hx8 : Fr (fun b => b = q8) wo w1 := by rw [hw1, hq8]; exact ((((Fr.refl (fun b => b = w0.heap.size) wo).setCell (p := ⟨w0.heap.size, 0, none⟩) (fun _ => rfl) _).setCell (p := ⟨w0.heap.size, 1, none⟩) (fun _ => rfl) _).setCell (p := ⟨w0.heap.size, 2, none⟩) (fun _ => rfl) _).setCell (p := ⟨w0.heap.size, 3, none⟩) (fun _ => rfl) _
       have hb8 : Bk w1 q8 38 #[.bool old.has, .slice old.va old.vn old.vc, .int .i64 old.home, .int .u64 (old.count : Int)] := by
         rw [hw1, hq8]
         refine Bk.cast (((((HB8.out).put 0 (.bool old.has)).put 1 (.slice old.va old.vn old.vc)).put 2 (.int .i64 old.home)).put 3 (.int .u64 (old.count : Int))) ?_
         simp only [List.setIfInBounds_toArray, List.set_cons_zero, List.set_cons_succ]
       have hnq : ¬ t'.own q8 := fun h => Tr.not_own hok.lies HB8.out (by decide) (by decide) (by decide) (hq8 ▸ h)
       have hlq : q5 + 2 ≤ q8 := by have := HGL.out.2.2.2; have := HFO.out.size; omega
       clear hw1 hq8)
    try clear HB8
    have hv6 : Bk w1 (q5 + 1) 38 #[.bool false, .slice none 0 0, .int .i64 0, .int .u64 0] := (HV6.out.fr HFO.out fun h => by have := HGL.out.2.2.1 _ h; omega).fr hx8 (by omega)
    replace hok := hok.fr hx8 fun b hb e => hnq (e ▸ hb)
    replace hst : Stp w w1 t.own t'.own := ⟨hst.fr.step hx8 fun i hi e => by have := HGL.out.2.1; omega, hst.new⟩
    have HV61 := Lib.hid hv6
    have HB81 := Lib.hid hb8
    have HLQ := Lib.hid hlq
    clear HV5 HV6 HFO HF0 hv6 hx8 hb8 hnq hlq
    have HB1 : Hid (Bk w1 g 104 #[.pointer (some ⟨tg, 0, none⟩), .int .i64 t.flat.length]) := by
      show Bk _ _ _ _
      rw [HTG.out]
      exact H1.out.fr hst.fr HG.out
    have HLK := Lib.hid hlk
    have HOK := Lib.hid hok
    have HFL := Lib.hid hfl
    have HGG : Hid (t'.g = tg) := hgg.trans HTG.out.symm
    have HN1 := Lib.hid hn1
    have HN2 := Lib.hid hn2
    have HNH := Lib.hid hnh
    have HST := Lib.hid hst
    have HUP : Hid (UpI Op.bytesLess t'.flat) := by show UpI _ _; rw [hfl]; exact HU.out.put linS
    have HG1 : Hid (¬ t'.own g) := fun e => by
      rcases hst.new g e with h | h
      · exact HG.out h
      · have := H1.out.lt; omega
    clear hlk hok hfl hgg hn1 hn2 hnh hst
    cases had with
    | true =>
      have HPW : Hid (TreePutR w g O t.flat key v (.returned (.tuple #[.agg #[.bool old.has, .slice old.va old.vn old.vc, .int .i64 old.home, .int .u64 (old.count : Int)], .bool true])) w1) := by
        have hm := HLK.out.some_of
        have hlen : (putL Op.bytesLess key v t.flat).length = t.flat.length := putL_len_yes linS HU.out hm
        have hnn : t'.n = t.n := HNH.out (by first | exact trivial | rfl)
        refine ⟨old, true, fun b => b = g ∨ t'.own b, rfl, HLK.out, ⟨d, t', ?_, HOK.out, HFL.out, HFL.out ▸ HUP.out, by rw [hnn]; exact HN.out, by rw [hnn]; exact HD.out, HG1.out, fun b => Iff.rfl⟩, HST.out.mono (fun b hb => (HOO.out b).2 (.inr hb)) fun b hb => ?_⟩
        · rw [hlen]
          have := HB1.out
          rw [← HGG.out] at this
          exact this
        · rcases hb with rfl | hb
          · exact .inr (.inl ((HOO.out _).2 (.inl rfl)))
          · exact .inl hb
      have HB8 : Hid (Bk w1 q8 38 #[.bool old.has, .slice old.va old.vn old.vc, .int .i64 old.home, .int .u64 (old.count : Int)]) := HB81.out
      have HBW : Hid (Bk w1 (q5 + 1) 38 #[.bool false, .slice none 0 0, .int .i64 0, .int .u64 0]) := HV61.out
      have o0 : w1.cell? ⟨q8, 0, none⟩ = some (.bool old.has) := HB8.out.cell 0
      have o1 : w1.cell? ⟨q8, 1, none⟩ = some (.slice old.va old.vn old.vc) := HB8.out.cell 1
      have o2 : w1.cell? ⟨q8, 2, none⟩ = some (.int .i64 old.home) := HB8.out.cell 2
      have o3 : w1.cell? ⟨q8, 3, none⟩ = some (.int .u64 (old.count : Int)) := HB8.out.cell 3
      have y0 : w1.cell? ⟨q5 + 1, 0, none⟩ = some (.bool false) := HBW.out.cell 0
      have y1 : w1.cell? ⟨q5 + 1, 1, none⟩ = some (.slice none 0 0) := HBW.out.cell 1
      have y2 : w1.cell? ⟨q5 + 1, 2, none⟩ = some (.int .i64 0) := HBW.out.cell 2
      have y3 : w1.cell? ⟨q5 + 1, 3, none⟩ = some (.int .u64 0) := HBW.out.cell 3
      have yf0 := HBW.out.free 0
      have yf1 := HBW.out.free 1
      have yf2 := HBW.out.free 2
      have yf3 := HBW.out.free 3
      obtain ⟨W9, hW9⟩ : ∃ W9, W9 = ((((w1).setCell ⟨q5 + 1, 0, none⟩ (.bool old.has)).setCell ⟨q5 + 1, 1, none⟩ (.slice old.va old.vn old.vc)).setCell ⟨q5 + 1, 2, none⟩ (.int .i64 old.home)).setCell ⟨q5 + 1, 3, none⟩ (.int .u64 (old.count : Int)) := ⟨_, rfl⟩
      have hx9 : Fr (fun k => k = q5 + 1) w1 W9 := by
        rw [hW9]
        exact ((((Fr.refl (fun k => k = q5 + 1) w1).setCell (p := ⟨q5 + 1, 0, none⟩) (fun _ => rfl) _).setCell (p := ⟨q5 + 1, 1, none⟩) (fun _ => rfl) _).setCell (p := ⟨q5 + 1, 2, none⟩) (fun _ => rfl) _).setCell (p := ⟨q5 + 1, 3, none⟩) (fun _ => rfl) _
      have HB9 : Hid (Bk W9 (q5 + 1) 38 #[.bool old.has, .slice old.va old.vn old.vc, .int .i64 old.home, .int .u64 (old.count : Int)]) := by
        show Bk _ _ _ _
        rw [hW9]
        refine Bk.cast (((((HBW.out).put 0 (.bool old.has)).put 1 (.slice old.va old.vn old.vc)).put 2 (.int .i64 old.home)).put 3 (.int .u64 (old.count : Int))) ?_
        simp only [List.setIfInBounds_toArray, List.set_cons_zero, List.set_cons_succ]
      have HPZ := Lib.hid (HPW.out.box (q := q5 + 1) hx9 HBW.out (by have := HGL.out.2.1; omega))
      have HW9 := Lib.hid hW9
      clear hW9 hx9 HPW
      go_wp2_with fail
      rw [← HW9.out]
      clear HW9 y0 yf0 o0 y1 yf1 o1 y2 yf2 o2 y3 yf3 o3
      have r0 : W9.cell? ⟨q5 + 1, 0, none⟩ = some (.bool old.has) := HB9.out.cell 0
      have r1 : W9.cell? ⟨q5 + 1, 1, none⟩ = some (.slice old.va old.vn old.vc) := HB9.out.cell 1
      have r2 : W9.cell? ⟨q5 + 1, 2, none⟩ = some (.int .i64 old.home) := HB9.out.cell 2
      have r3 : W9.cell? ⟨q5 + 1, 3, none⟩ = some (.int .u64 (old.count : Int)) := HB9.out.cell 3
      refine bodyPost_ret (v := .tuple #[.agg #[.bool old.has, .slice old.va old.vn old.vc, .int .i64 old.home, .int .u64 (old.count : Int)], .bool true]) (by rw [results_cell_tmp rfl]; go_simp) rfl HPZ.out
    | false =>
      obtain ⟨nn, hnn⟩ : ∃ nn, nn = t.flat.length := ⟨_, rfl⟩
      have HNN := Lib.hid hnn
      have HB1' : Hid (Bk w1 g 104 #[.pointer (some ⟨tg, 0, none⟩), .int .i64 nn]) := by show Bk _ _ _ _; rw [hnn]; exact HB1.out
      have hwr : IntKind.i64.wrap ((nn : Int) + 1) = (nn : Int) + 1 := by have := HLEN.out; exact IntWalk.i64_in _ (by omega)
      have hlen : (putL Op.bytesLess key v t.flat).length = nn + 1 := by rw [hnn]; exact putL_len_no linS HLK.out.none_of
      have HPL := Lib.hid hlen
      clear hnn hlen HB1
      obtain ⟨W2, hW2⟩ : ∃ W2, W2 = w1.setCell ⟨g, 1, none⟩ (.int .i64 ((nn : Int) + 1)) := ⟨_, rfl⟩
      have hf12 : Fr (fun b => b = g) w1 W2 := by rw [hW2]; exact (Fr.refl (fun b => b = g) w1).setCell (p := ⟨g, 1, none⟩) (fun _ => rfl) _
      have HB2 : Hid (Bk W2 g 104 #[.pointer (some ⟨tg, 0, none⟩), .int .i64 ((nn : Int) + 1)]) := by show Bk _ _ _ _; rw [hW2]; exact HB1'.out.put 1 _
      have HOK2 : Hid (t'.ok tkR W2) := HOK.out.fr hf12 fun b hb e => HG1.out (e ▸ hb)
      obtain ⟨kn, hkn⟩ : ∃ kn, kn = t'.hd.xs.length := ⟨_, rfl⟩
      have HKN := Lib.hid hkn
      have c1 : w1.cell? ⟨g, 1, none⟩ = some (.int .i64 nn) := HB1'.out.cell 1
      have f1 := HB1'.out.free 1
      have c2 : (w1.setCell ⟨g, 1, none⟩ (.int .i64 ((nn : Int) + 1))).cell? ⟨g, 0, none⟩ = some (.pointer (some ⟨tg, 0, none⟩)) := by rw [← hW2]; exact HB2.out.cell 0
      have c3 : (w1.setCell ⟨g, 1, none⟩ (.int .i64 ((nn : Int) + 1))).cell? ⟨tg, 0, none⟩ = some (.slice t'.hd.A kn t'.hd.c) := by
        rw [← hW2, hkn, ← HGG.out]
        exact (Tr.lies_hd HOK2.out.lies).1.cell 0
      have HF12 := Lib.hid hf12
      clear hf12 hkn
      by_cases h17 : kn = 17
      · have hgt : (16 : Int) < (kn : Int) := by omega
        have hz2 : w1.heap.size = W2.heap.size := by rw [hW2]; simp [World.setCell]
        obtain ⟨W4, hW4⟩ : ∃ W4, W4 = (W2.alloc (.cells #[.pointer (some ⟨tg, 0, none⟩)] 98)).alloc (.cells #[.slice none 0 0, .slice (some ⟨w1.heap.size, 0, none⟩) 1 1] 102) := ⟨_, rfl⟩
        have hz3 : (W2.alloc (.cells #[.pointer (some ⟨tg, 0, none⟩)] 98)).heap.size = w1.heap.size + 1 := by rw [World.size_alloc, hz2]
        have hf24 : Fr NoBlk W2 W4 := by rw [hW4]; exact ((Fr.refl _ _).alloc _).alloc _
        have hR4 : Bk W4 w1.heap.size 98 #[.pointer (some ⟨tg, 0, none⟩)] := by rw [hW4, hz2]; exact (Bk.new _ _ _).alloc _
        have hN4 : Bk W4 (w1.heap.size + 1) 102 #[.slice none 0 0, .slice (some ⟨w1.heap.size, 0, none⟩) 1 1] := by rw [hW4, ← hz3]; exact Bk.new _ _ _
        have hB4 : Bk W4 g 104 #[.pointer (some ⟨tg, 0, none⟩), .int .i64 ((nn : Int) + 1)] := HB2.out.fr hf24 fun e => e
        obtain ⟨W5, hW5⟩ : ∃ W5, W5 = W4.setCell ⟨g, 0, none⟩ (.pointer (some ⟨w1.heap.size + 1, 0, none⟩)) := ⟨_, rfl⟩
        have hf45 : Fr (fun b => b = g) W4 W5 := by rw [hW5]; exact (Fr.refl (fun b => b = g) W4).setCell (p := ⟨g, 0, none⟩) (fun _ => rfl) _
        have HB5 : Hid (Bk W5 g 104 #[.pointer (some ⟨w1.heap.size + 1, 0, none⟩), .int .i64 ((nn : Int) + 1)]) := by show Bk _ _ _ _; rw [hW5]; exact hB4.put 0 _
        have hgl : g < w.heap.size := H1.out.lt
        have hs1 := HST.out.fr.size
        have hs2 := HF12.out.size
        have HZ : Hid (w.heap.size ≤ w1.heap.size ∧ w1.heap.size ≤ w1.heap.size ∧ w1.heap.size + 2 ≤ W5.heap.size) := by
          show _ ∧ _
          refine ⟨hs1, Nat.le_refl _, ?_⟩
          have := hf45.size
          have h4 : W4.heap.size = w1.heap.size + 2 := by rw [hW4, World.size_alloc, hz3]
          omega
        have HF25 : Hid (Fr (fun b => b = g) W2 W5) := (hf24.mono fun _ _ h => h.elim).step hf45 fun _ _ h => h
        have HOK5 : Hid (t'.ok tkR W5) := HOK2.out.fr HF25.out fun b hb e => HG1.out (e ▸ hb)
        have HN5 : Hid ((Hd.mk (w1.heap.size + 1) none 0 (some ⟨w1.heap.size, 0, none⟩) 1 ([] : List ItR)).lies tkR W5 [tg]) := by
          refine Hd.lies_mk (hN4.fr hf45 fun e => by omega) (RowW.nil _ _ _ _) (n := 0) (m := 1) (ys := []) (zs := [ptr tg]) ?_ rfl rfl rfl rfl
          exact ⟨rfl, fun u hu => by rw [List.mem_singleton] at hu; rw [hu]; rfl, .inr ⟨w1.heap.size, 1, _, rfl, Nat.zero_le _, hR4.fr hf45 fun e => by omega, Nat.le_refl _, by unfold maxLen; omega, by simp, by simp [ptr]⟩⟩
        have HKO : Hid (∀ b, t'.own b → b < w1.heap.size) := fun b hb => by
          have := HOK.out.lt hb
          have := HZ.out.2.1
          omega
        have HDJ : Hid (Dj (Hd.mk (w1.heap.size + 1) none 0 (some ⟨w1.heap.size, 0, none⟩) 1 ([] : List ItR)).own t'.own) := fun b h1 h2 => by
          have h3 := HKO.out b h2
          rcases h1 with h1 | ⟨_, h1, _⟩ | ⟨_, h1, h4⟩
          · have h5 : b = w1.heap.size + 1 := h1
            omega
          · cases h1
          · injection h1 with h1
            subst h1
            have h5 : w1.heap.size = b := h4
            omega
        have h17' : t'.n = 17 := HKN.out.symm.trans h17
        have HPT : Hid (Calls Try.prog 81 #[.pointer (some ⟨w1.heap.size + 1, 0, none⟩), .int .i64 0] W5 (PartRPost W5 (Hd.mk (w1.heap.size + 1) none 0 (some ⟨w1.heap.size, 0, none⟩) 1 ([] : List ItR)) t'.hd [tg] t'.ptrs 0)) :=
          partR_any W5 (Hd.mk (w1.heap.size + 1) none 0 (some ⟨w1.heap.size, 0, none⟩) 1 ([] : List ItR)) t'.hd [tg] t'.ptrs 0 HN5.out (Tr.lies_hd HOK5.out.lies) (by rw [← HGG.out]; rfl) (Nat.zero_le _) (Nat.zero_le _) (by show 1 ≤ 100; omega) h17' (by
            have h3 := Tr.ptrs_len HOK5.out.shape
            rw [h17'] at h3
            exact h3) (HDJ.out.mono (fun _ h => h) fun b hb => t'.own_hd hb)
        have c4 : (((w1.setCell ⟨g, 1, none⟩ (.int .i64 ((nn : Int) + 1))).alloc (.cells #[.pointer (some ⟨tg, 0, none⟩)] 98)).alloc (.cells #[.slice none 0 0, .slice (some ⟨w1.heap.size, 0, none⟩) 1 1] 102)).cell? ⟨g, 0, none⟩ = some (.pointer (some ⟨tg, 0, none⟩)) := by rw [← hW2, ← hW4]; exact hB4.cell 0
        have f4 : (((w1.setCell ⟨g, 1, none⟩ (.int .i64 ((nn : Int) + 1))).alloc (.cells #[.pointer (some ⟨tg, 0, none⟩)] 98)).alloc (.cells #[.slice none 0 0, .slice (some ⟨w1.heap.size, 0, none⟩) 1 1] 102)).frozen? ⟨g, 0, none⟩ = false := by rw [← hW2, ← hW4]; exact hB4.free 0
        have c5 : ((((w1.setCell ⟨g, 1, none⟩ (.int .i64 ((nn : Int) + 1))).alloc (.cells #[.pointer (some ⟨tg, 0, none⟩)] 98)).alloc (.cells #[.slice none 0 0, .slice (some ⟨w1.heap.size, 0, none⟩) 1 1] 102)).setCell ⟨g, 0, none⟩ (.pointer (some ⟨w1.heap.size + 1, 0, none⟩))).cell? ⟨g, 0, none⟩ = some (.pointer (some ⟨w1.heap.size + 1, 0, none⟩)) := by rw [← hW2, ← hW4, ← hW5]; exact HB5.out.cell 0
        have HE5 : Hid (((((w1.setCell ⟨g, 1, none⟩ (.int .i64 ((nn : Int) + 1))).alloc (.cells #[.pointer (some ⟨tg, 0, none⟩)] 98)).alloc (.cells #[.slice none 0 0, .slice (some ⟨w1.heap.size, 0, none⟩) 1 1] 102)).setCell ⟨g, 0, none⟩ (.pointer (some ⟨w1.heap.size + 1, 0, none⟩))) = W5) := by show _ = _; rw [← hW2, ← hW4, ← hW5]
        clear hz3 hf24 hR4 hN4 hB4 hf45 hs1 hs2 hgl h17' hW4 hW5 hW2 hz2
        go_wp2_with fail
        rw [HE5.out]
        clear HE5 c4 f4 c5
        refine HPT.out.mono ?_
        clear HPT
        rintro e w6 ⟨⟨vv, rfl⟩, h', l, r, m, hm, hx', hlx, hrx, hl', hll, hrl, hg', hlg, ho', hlo, hro, hdj, hfr⟩
        have HPP := Lib.hid (And.intro hm (And.intro hx' (And.intro hlx (And.intro hrx (And.intro hl' (And.intro hll (And.intro hrl (And.intro hg' (And.intro hlg (And.intro ho' (And.intro hlo (And.intro hro (And.intro hdj hfr)))))))))))))
        clear hm hx' hlx hrx hl' hll hrl hg' hlg ho' hlo hro hdj hfr
        have HNO : Hid (∀ b, b < w1.heap.size → ¬ (Hd.mk (w1.heap.size + 1) none 0 (some ⟨w1.heap.size, 0, none⟩) 1 ([] : List ItR)).own b) := fun b hl hb => by
          rcases hb with h1 | ⟨_, h1, _⟩ | ⟨_, h1, h4⟩
          · have h5 : b = w1.heap.size + 1 := h1
            omega
          · cases h1
          · injection h1 with h1
            subst h1
            have h5 : w1.heap.size = b := h4
            omega
        have HPW : Hid (TreePutR w g O t.flat key v (.returned (.tuple #[.agg #[.bool old.has, .slice old.va old.vn old.vc, .int .i64 old.home, .int .u64 (old.count : Int)], .bool false])) w6) := by
          obtain ⟨hm, hx', hlx, hrx, hl', hll, hrl, hg', hlg, ho', hlo, hro, hdj, hfr⟩ := HPP.out
          have h17' : t'.n = 17 := HKN.out.symm.trans h17
          obtain ⟨tl, tr, e1, e2, ol, or', hfl2, wl, wr, djl⟩ := Tr.parted hfr HOK5.out h17' hm hlx hrx hll hrl hlo hro (fun b hb => by
            rcases hb with hb | hb
            · exact .inr fun hk => HDJ.out b hb hk
            · exact .inl hb)
          have hkx : t'.hd.xs.length = 17 := h17'
          have hz := HZ.out
          have hgl : g < w.heap.size := H1.out.lt
          have nog : ∀ b, (Hd.mk (w1.heap.size + 1) none 0 (some ⟨w1.heap.size, 0, none⟩) 1 ([] : List ItR)).own b → w1.heap.size ≤ b := fun b hb => by
            rcases hb with h1 | ⟨_, h1, _⟩ | ⟨_, h1, h4⟩
            · have h5 : b = w1.heap.size + 1 := h1
              omega
            · cases h1
            · injection h1 with h1
              subst h1
              have h5 : w1.heap.size = b := h4
              omega
          have hhn : ∀ b, h'.own b → w1.heap.size ≤ b := fun b hb => by
            rcases ho' b hb with h | h
            · exact nog b h
            · omega
          have hxl : h'.xs = [m] := hx'
          have hpl : h'.lies tkR w6 ([tl, tr].map Tr.g) := by
            rw [show [tl, tr].map Tr.g = [tg].take (0 + 1) ++ r.g :: [tg].drop (0 + 1) by show [tl.g, tr.g] = [tg, r.g]; rw [show Tr.g tl = tg from (congrArg Hd.g e1).trans (hlg.trans HGG.out), show Tr.g tr = r.g from congrArg Hd.g e2]]
            exact hl'
          have htl8 : tl.n = 8 := by show tl.hd.xs.length = 8; rw [e1, hlx, List.length_take, hkx]; rfl
          have htr8 : tr.n = 8 := by show tr.hd.xs.length = 8; rw [e2, hrx, List.length_drop, hkx]
          have hdl : Dj h'.own tl.own := fun b h1 h2 => by
            have h3 := hhn b h1
            have h4 := HKO.out b (wl b h2)
            omega
          have hdr : Dj h'.own tr.own := fun b h1 h2 => by
            rcases wr b h2 with h | h
            · exact hdj b h1 h
            · have h3 := hhn b h1
              have h4 := HKO.out b h
              omega
          have hok6 : (Tr.node h' [tl, tr]).ok tkR w6 := by
            refine ⟨⟨hpl, fun k hk => ?_⟩, ⟨fun k hk => ?_, ?_⟩, ⟨by rw [hxl]; rfl, fun k hk => ?_⟩⟩
            · rcases List.mem_cons.1 hk with rfl | hk
              · exact ol.lies
              · obtain rfl := List.mem_singleton.1 hk; exact or'.lies
            · rcases List.mem_cons.1 hk with rfl | hk
              · exact ⟨hdl, ol.sep⟩
              · obtain rfl := List.mem_singleton.1 hk; exact ⟨hdr, or'.sep⟩
            · rw [List.pairwise_cons]; exact ⟨fun q hq => by obtain rfl := List.mem_singleton.1 hq; exact djl, List.pairwise_singleton _ _⟩
            · rcases List.mem_cons.1 hk with rfl | hk
              · exact ⟨ol.shape, by rw [htl8]; omega, by rw [htl8]; omega⟩
              · obtain rfl := List.mem_singleton.1 hk; exact ⟨or'.shape, by rw [htr8]; omega, by rw [htr8]; omega⟩
          have hflat : (Tr.node h' [tl, tr]).flat = putL Op.bytesLess key v t.flat := by
            rw [← HFL.out, ← hfl2]
            show weave ([tl, tr].map Tr.flat) h'.xs = _
            rw [hxl]
            simp [weave]
          have hng : ¬ (Tr.node h' [tl, tr]).own g := by
            rintro (h | ⟨k, hk, h⟩)
            · have := hhn g h; omega
            · rcases List.mem_cons.1 hk with rfl | hk
              · exact HG1.out (wl g h)
              · obtain rfl := List.mem_singleton.1 hk
                rcases wr g h with h | h
                · have := hro g h; omega
                · exact HG1.out h
          have hB6 : Bk w6 g 104 #[ptr (Tr.node h' [tl, tr]).g, .int .i64 (putL Op.bytesLess key v t.flat).length] := by
            have h1 := HB5.out.fr hfr fun e => by
              rcases e with e | e
              · have := nog g e; omega
              · exact HG1.out (t'.own_hd e)
            rw [HPL.out]
            have e3 : (Tr.node h' [tl, tr]).g = w1.heap.size + 1 := hg'
            rw [e3]
            exact h1
          have htO : ∀ b, t.own b → O b := fun b hb => (HOO.out b).2 (.inr hb)
          have ht' : ∀ b, t'.own b → O b ∨ w.heap.size ≤ b := fun b hb => by
            rcases HST.out.new b hb with h | h
            · exact .inl (htO b h)
            · exact .inr h
          refine ⟨old, false, fun b => b = g ∨ (Tr.node h' [tl, tr]).own b, rfl, HLK.out, ⟨d + 1, Tr.node h' [tl, tr], hB6, hok6, hflat, HFL.out ▸ HUP.out, by show h'.xs.length ≤ 16; rw [hxl]; exact Nat.succ_le_succ (Nat.zero_le _), .inr (by show 1 ≤ h'.xs.length; rw [hxl]; exact Nat.le_refl _), hng, fun b => Iff.rfl⟩, ⟨?_, fun b hb => ?_⟩⟩
          · refine (((HST.out.fr.mono fun b _ h => htO b h).step HF12.out fun b _ e => ?_).step HF25.out fun b _ e => ?_).step hfr fun b hb e => ?_
            · exact (HOO.out b).2 (.inl e)
            · exact (HOO.out b).2 (.inl e)
            · rcases e with e | e
              · have := nog b e; omega
              · rcases ht' b (t'.own_hd e) with h | h
                · exact h
                · omega
          · rcases hb with rfl | h | ⟨k, hk, h⟩
            · exact .inl ((HOO.out _).2 (.inl rfl))
            · have := hhn b h
              exact .inr (by omega)
            · rcases List.mem_cons.1 hk with rfl | hk
              · exact ht' b (wl b h)
              · obtain rfl := List.mem_singleton.1 hk
                rcases wr b h with h | h
                · have := hro b h
                  exact .inr (by omega)
                · exact ht' b h
        have HB8 : Hid (Bk w6 q8 38 #[.bool old.has, .slice old.va old.vn old.vc, .int .i64 old.home, .int .u64 (old.count : Int)]) := by
          have hb5 := (HB81.out.fr HF12.out (by have := HGL.out.1; have := HLQ.out; omega) |>.fr HF25.out (by have := HGL.out.1; have := HLQ.out; omega))
          refine hb5.fr HPP.out.2.2.2.2.2.2.2.2.2.2.2.2.2 fun h => ?_
          rcases h with h | h
          · exact HNO.out _ HB81.out.lt h
          · exact Tr.not_own HOK5.out.lies hb5 (by decide) (by decide) (by decide) (t'.own_hd h)
        have HBW : Hid (Bk w6 (q5 + 1) 38 #[.bool false, .slice none 0 0, .int .i64 0, .int .u64 0]) := by
          have hb5 := (HV61.out.fr HF12.out (by have := HGL.out.1; omega) |>.fr HF25.out (by have := HGL.out.1; omega))
          refine hb5.fr HPP.out.2.2.2.2.2.2.2.2.2.2.2.2.2 fun h => ?_
          rcases h with h | h
          · exact HNO.out _ HV61.out.lt h
          · exact Tr.not_own HOK5.out.lies hb5 (by decide) (by decide) (by decide) (t'.own_hd h)
        have o0 : w6.cell? ⟨q8, 0, none⟩ = some (.bool old.has) := HB8.out.cell 0
        have o1 : w6.cell? ⟨q8, 1, none⟩ = some (.slice old.va old.vn old.vc) := HB8.out.cell 1
        have o2 : w6.cell? ⟨q8, 2, none⟩ = some (.int .i64 old.home) := HB8.out.cell 2
        have o3 : w6.cell? ⟨q8, 3, none⟩ = some (.int .u64 (old.count : Int)) := HB8.out.cell 3
        have y0 : w6.cell? ⟨q5 + 1, 0, none⟩ = some (.bool false) := HBW.out.cell 0
        have y1 : w6.cell? ⟨q5 + 1, 1, none⟩ = some (.slice none 0 0) := HBW.out.cell 1
        have y2 : w6.cell? ⟨q5 + 1, 2, none⟩ = some (.int .i64 0) := HBW.out.cell 2
        have y3 : w6.cell? ⟨q5 + 1, 3, none⟩ = some (.int .u64 0) := HBW.out.cell 3
        have yf0 := HBW.out.free 0
        have yf1 := HBW.out.free 1
        have yf2 := HBW.out.free 2
        have yf3 := HBW.out.free 3
        obtain ⟨W9, hW9⟩ : ∃ W9, W9 = ((((w6).setCell ⟨q5 + 1, 0, none⟩ (.bool old.has)).setCell ⟨q5 + 1, 1, none⟩ (.slice old.va old.vn old.vc)).setCell ⟨q5 + 1, 2, none⟩ (.int .i64 old.home)).setCell ⟨q5 + 1, 3, none⟩ (.int .u64 (old.count : Int)) := ⟨_, rfl⟩
        have hx9 : Fr (fun k => k = q5 + 1) w6 W9 := by
          rw [hW9]
          exact ((((Fr.refl (fun k => k = q5 + 1) w6).setCell (p := ⟨q5 + 1, 0, none⟩) (fun _ => rfl) _).setCell (p := ⟨q5 + 1, 1, none⟩) (fun _ => rfl) _).setCell (p := ⟨q5 + 1, 2, none⟩) (fun _ => rfl) _).setCell (p := ⟨q5 + 1, 3, none⟩) (fun _ => rfl) _
        have HB9 : Hid (Bk W9 (q5 + 1) 38 #[.bool old.has, .slice old.va old.vn old.vc, .int .i64 old.home, .int .u64 (old.count : Int)]) := by
          show Bk _ _ _ _
          rw [hW9]
          refine Bk.cast (((((HBW.out).put 0 (.bool old.has)).put 1 (.slice old.va old.vn old.vc)).put 2 (.int .i64 old.home)).put 3 (.int .u64 (old.count : Int))) ?_
          simp only [List.setIfInBounds_toArray, List.set_cons_zero, List.set_cons_succ]
        have HPZ := Lib.hid (HPW.out.box (q := q5 + 1) hx9 HBW.out (by have := HGL.out.2.1; omega))
        have HW9 := Lib.hid hW9
        clear hW9 hx9 HPW
        go_wp2_with fail
        rw [← HW9.out]
        clear HW9 y0 yf0 o0 y1 yf1 o1 y2 yf2 o2 y3 yf3 o3
        have r0 : W9.cell? ⟨q5 + 1, 0, none⟩ = some (.bool old.has) := HB9.out.cell 0
        have r1 : W9.cell? ⟨q5 + 1, 1, none⟩ = some (.slice old.va old.vn old.vc) := HB9.out.cell 1
        have r2 : W9.cell? ⟨q5 + 1, 2, none⟩ = some (.int .i64 old.home) := HB9.out.cell 2
        have r3 : W9.cell? ⟨q5 + 1, 3, none⟩ = some (.int .u64 (old.count : Int)) := HB9.out.cell 3
        refine bodyPost_ret (v := .tuple #[.agg #[.bool old.has, .slice old.va old.vn old.vc, .int .i64 old.home, .int .u64 (old.count : Int)], .bool false]) (by rw [results_cell_tmp rfl]; go_simp) rfl HPZ.out
      · have hgt : ¬ (16 : Int) < (kn : Int) := by
          have h1 := HN2.out
          have h2 := HN.out
          have h3 : kn = t'.n := HKN.out
          omega
        go_upto_region 8 with fail
        rw [← hW2]
        clear c2 c3 hW2
        have HPW : Hid (TreePutR w g O t.flat key v (.returned (.tuple #[.agg #[.bool old.has, .slice old.va old.vn old.vc, .int .i64 old.home, .int .u64 (old.count : Int)], .bool false])) W2) := by
          have hn16 : t'.n ≤ 16 := by
            have h3 : kn = t'.n := HKN.out
            omega
          refine ⟨old, false, fun b => b = g ∨ t'.own b, rfl, HLK.out, ⟨d, t', ?_, HOK2.out, HFL.out, HFL.out ▸ HUP.out, hn16, ?_, HG1.out, fun b => Iff.rfl⟩, ?_⟩
          · have := HB2.out
            rw [HPL.out]
            rw [← HGG.out] at this
            exact this
          · rcases HD.out with h | h
            · exact .inl h
            · exact .inr (Nat.le_trans h HN1.out)
          · refine (Stp.trans (o1 := fun b => b = g ∨ t'.own b) (HST.out.mono (fun b hb => (HOO.out b).2 (.inr hb)) fun b hb => ?_) ⟨HF12.out.mono fun b _ e => .inl e, fun b hb => .inl hb⟩)
            rcases hb with rfl | hb
            · exact .inr (.inl ((HOO.out _).2 (.inl rfl)))
            · exact .inl hb
        have HB8 : Hid (Bk W2 q8 38 #[.bool old.has, .slice old.va old.vn old.vc, .int .i64 old.home, .int .u64 (old.count : Int)]) := (HB81.out.fr HF12.out (by have := HGL.out.1; have := HLQ.out; omega))
        have HBW : Hid (Bk W2 (q5 + 1) 38 #[.bool false, .slice none 0 0, .int .i64 0, .int .u64 0]) := (HV61.out.fr HF12.out (by have := HGL.out.1; omega))
        have o0 : W2.cell? ⟨q8, 0, none⟩ = some (.bool old.has) := HB8.out.cell 0
        have o1 : W2.cell? ⟨q8, 1, none⟩ = some (.slice old.va old.vn old.vc) := HB8.out.cell 1
        have o2 : W2.cell? ⟨q8, 2, none⟩ = some (.int .i64 old.home) := HB8.out.cell 2
        have o3 : W2.cell? ⟨q8, 3, none⟩ = some (.int .u64 (old.count : Int)) := HB8.out.cell 3
        have y0 : W2.cell? ⟨q5 + 1, 0, none⟩ = some (.bool false) := HBW.out.cell 0
        have y1 : W2.cell? ⟨q5 + 1, 1, none⟩ = some (.slice none 0 0) := HBW.out.cell 1
        have y2 : W2.cell? ⟨q5 + 1, 2, none⟩ = some (.int .i64 0) := HBW.out.cell 2
        have y3 : W2.cell? ⟨q5 + 1, 3, none⟩ = some (.int .u64 0) := HBW.out.cell 3
        have yf0 := HBW.out.free 0
        have yf1 := HBW.out.free 1
        have yf2 := HBW.out.free 2
        have yf3 := HBW.out.free 3
        obtain ⟨W9, hW9⟩ : ∃ W9, W9 = ((((W2).setCell ⟨q5 + 1, 0, none⟩ (.bool old.has)).setCell ⟨q5 + 1, 1, none⟩ (.slice old.va old.vn old.vc)).setCell ⟨q5 + 1, 2, none⟩ (.int .i64 old.home)).setCell ⟨q5 + 1, 3, none⟩ (.int .u64 (old.count : Int)) := ⟨_, rfl⟩
        have hx9 : Fr (fun k => k = q5 + 1) W2 W9 := by
          rw [hW9]
          exact ((((Fr.refl (fun k => k = q5 + 1) W2).setCell (p := ⟨q5 + 1, 0, none⟩) (fun _ => rfl) _).setCell (p := ⟨q5 + 1, 1, none⟩) (fun _ => rfl) _).setCell (p := ⟨q5 + 1, 2, none⟩) (fun _ => rfl) _).setCell (p := ⟨q5 + 1, 3, none⟩) (fun _ => rfl) _
        have HB9 : Hid (Bk W9 (q5 + 1) 38 #[.bool old.has, .slice old.va old.vn old.vc, .int .i64 old.home, .int .u64 (old.count : Int)]) := by
          show Bk _ _ _ _
          rw [hW9]
          refine Bk.cast (((((HBW.out).put 0 (.bool old.has)).put 1 (.slice old.va old.vn old.vc)).put 2 (.int .i64 old.home)).put 3 (.int .u64 (old.count : Int))) ?_
          simp only [List.setIfInBounds_toArray, List.set_cons_zero, List.set_cons_succ]
        have HPZ := Lib.hid (HPW.out.box (q := q5 + 1) hx9 HBW.out (by have := HGL.out.2.1; omega))
        have HW9 := Lib.hid hW9
        clear hW9 hx9 HPW
        go_wp2_with fail
        rw [← HW9.out]
        clear HW9 y0 yf0 o0 y1 yf1 o1 y2 yf2 o2 y3 yf3 o3
        have r0 : W9.cell? ⟨q5 + 1, 0, none⟩ = some (.bool old.has) := HB9.out.cell 0
        have r1 : W9.cell? ⟨q5 + 1, 1, none⟩ = some (.slice old.va old.vn old.vc) := HB9.out.cell 1
        have r2 : W9.cell? ⟨q5 + 1, 2, none⟩ = some (.int .i64 old.home) := HB9.out.cell 2
        have r3 : W9.cell? ⟨q5 + 1, 3, none⟩ = some (.int .u64 (old.count : Int)) := HB9.out.cell 3
        refine bodyPost_ret (v := .tuple #[.agg #[.bool old.has, .slice old.va old.vn old.vc, .int .i64 old.home, .int .u64 (old.count : Int)], .bool false]) (by rw [results_cell_tmp rfl]; go_simp) rfl HPZ.out
end Go.Proofs.Ytkdcacajacndmaa
