/- Trees as the program has them: New, Put, Get, Len. Conditions: at most 100000 keys. -/
import Derived.Test.YtcpgonioobgpoaaN2S
import Derived.Test.YtcpgonioobgpoaaP3
import Derived.Deep.LoopGhost

namespace Go.Proofs.Ytcpgonioobgpoaa
open Go.RowKit
section
variable {A V : Type} {lt : A → A → Bool}
theorem putL_len_no (L : Lin lt) {key : A} {v : V} {xs : List (A × V)} (h : ∀ u, (key, u) ∉ xs) : (putL lt key v xs).length = xs.length + 1 := by
  have key2 : ∀ ys : List (A × V), (∀ u, (key, u) ∉ ys) → (ys.filter fun p => lt p.1 key).length + (ys.filter fun p => lt key p.1).length = ys.length := by
    intro ys
    induction ys with
    | nil => intro _; rfl
    | cons y t ih =>
      intro hy
      have ht := ih fun u hu => hy u (List.mem_cons_of_mem _ hu)
      cases e : lt y.1 key with
      | true =>
        simp only [List.filter_cons, e, L.asymm e, if_true, List.length_cons]
        simp only [Bool.false_eq_true, if_false]
        omega
      | false =>
        have e2 : lt key y.1 = true := by
          cases e2 : lt key y.1 with
          | true => rfl
          | false => exact absurd (List.mem_cons_self) (by rw [← L.tot e e2] at hy; exact hy y.2)
        simp only [List.filter_cons, e, e2, if_true, List.length_cons]
        simp only [Bool.false_eq_true, if_false]
        omega
  unfold putL
  rw [List.length_append, List.length_cons]
  have := key2 xs h
  omega
theorem mem_split {key : A} {u : V} {xs : List (A × V)} (hm : (key, u) ∈ xs) : ∃ P Q, xs = P ++ [(key, u)] ++ Q := by
  obtain ⟨P, Q, e⟩ := List.append_of_mem hm
  exact ⟨P, Q, by rw [e]; simp⟩
theorem putL_len_yes (L : Lin lt) {key : A} {u v : V} {xs : List (A × V)} (hu : UpI lt xs) (hm : (key, u) ∈ xs) : (putL lt key v xs).length = xs.length := by
  obtain ⟨P, Q, rfl⟩ := mem_split hm
  obtain ⟨h1, h2⟩ := up_mid L hu
  rw [putL_mid L h1 h2, putL_at L]
  simp
theorem Lk.none_of {z v : V} {key : A} {xs : List (A × V)} (h : Lk z key xs false v) : ∀ u, (key, u) ∉ xs := by
  rcases h with ⟨h, _⟩ | ⟨_, _, h⟩
  · cases h
  · exact h
theorem Lk.some_of {z v : V} {key : A} {xs : List (A × V)} (h : Lk z key xs true v) : (key, v) ∈ xs := by
  rcases h with ⟨_, h⟩ | ⟨h, _⟩
  · exact h
  · cases h
end
theorem Stp.le {w w' : World} {o o' : Nat → Prop} (h : Stp w w' o o') {B : Nat} (hB : B ≤ w.heap.size) (ho : ∀ b, o b → B ≤ b) : ∀ b, o' b → B ≤ b := fun b hb => by
  rcases h.new b hb with h | h
  · exact ho b h
  · omega
/-- a tree in memory: block g; O are its blocks, g among them; xs is what it has. -/
def TreeS (w : World) (g : Nat) (O : Nat → Prop) (xs : List ItS) : Prop :=
  ∃ (d : Nat) (t : Tr ItS d), Bk w g 69 #[ptr t.g, .int .i64 xs.length] ∧ t.ok tkS w ∧ t.flat = xs ∧ UpI Op.bytesLess xs ∧ t.n ≤ 16 ∧ (d = 0 ∨ 1 ≤ t.n) ∧ ¬ t.own g ∧ ∀ b, O b ↔ (b = g ∨ t.own b)
section
variable {w w' : World} {g : Nat} {O C K : Nat → Prop} {xs : List ItS}
theorem TreeS.fr (h : TreeS w g O xs) (hf : Fr C w w') (hn : ∀ b, O b → ¬ C b) : TreeS w' g O xs := by
  obtain ⟨d, t, h1, h2, h3, h4, h5, h6, h7, h8⟩ := h
  exact ⟨d, t, h1.fr hf (hn _ ((h8 g).2 (.inl rfl))), h2.fr hf fun b hb => hn b ((h8 b).2 (.inr hb)), h3, h4, h5, h6, h7, h8⟩
theorem TreeS.nofr (h : TreeS w g O xs) (hf : Fr NoBlk w w') : TreeS w' g O xs := h.fr hf fun _ _ e => e
theorem TreeS.kept (h : TreeS w g O xs) (hk : Keep K w w') (hn : ∀ b, O b → K b) : TreeS w' g O xs := by
  obtain ⟨d, t, h1, h2, h3, h4, h5, h6, h7, h8⟩ := h
  exact ⟨d, t, h1.kept hk (hn _ ((h8 g).2 (.inl rfl))), ⟨Tr.lies_kept hk h2.lies fun b hb => hn b ((h8 b).2 (.inr hb)), h2.sep, h2.shape⟩, h3, h4, h5, h6, h7, h8⟩
theorem TreeS.lt (h : TreeS w g O xs) {b : Nat} (hb : O b) : b < w.heap.size := by
  obtain ⟨d, t, h1, h2, h3, h4, h5, h6, h7, h8⟩ := h
  rcases (h8 b).1 hb with rfl | hb
  · exact h1.lt
  · exact h2.lt hb
theorem TreeS.up (h : TreeS w g O xs) : UpI Op.bytesLess xs := by obtain ⟨d, t, h1, h2, h3, h4, _⟩ := h; exact h4
theorem TreeS.self (h : TreeS w g O xs) : O g := by obtain ⟨d, t, h1, h2, h3, h4, h5, h6, h7, h8⟩ := h; exact (h8 g).2 (.inl rfl)
end
set_option maxRecDepth 100000 in
theorem newS_any (w : World) : Calls Try.prog 11 #[] w fun e w' => ∃ g O, e = .returned (.pointer (some ⟨g, 0, none⟩)) ∧ TreeS w' g O [] ∧ (∀ b, O b → w.heap.size ≤ b) ∧ Fr NoBlk w w' := by
  obtain ⟨w1, hw1⟩ : ∃ w1, w1 = w.alloc (.cells #[.slice none 0 0, .slice none 0 0] 67) := ⟨_, rfl⟩
  have hz : w1.heap.size = w.heap.size + 1 := by rw [hw1, World.size_alloc]
  obtain ⟨w2, hw2⟩ : ∃ w2, w2 = w1.alloc (.cells #[.pointer (some ⟨w.heap.size, 0, none⟩), .int .i64 0] 69) := ⟨_, rfl⟩
  have hb1 : Bk w1 w.heap.size 67 #[.slice none 0 0, .slice none 0 0] := by rw [hw1]; exact Bk.new _ _ _
  have hb2 : Bk w2 (w.heap.size + 1) 69 #[.pointer (some ⟨w.heap.size, 0, none⟩), .int .i64 0] := by rw [hw2, ← hz]; exact Bk.new _ _ _
  have hf : Fr NoBlk w w2 := by rw [hw2, hw1]; exact ((Fr.refl _ _).alloc _).alloc _
  have HT : Hid (TreeS w2 (w.heap.size + 1) (fun b => b = w.heap.size + 1 ∨ b = w.heap.size) []) := by
    refine ⟨0, .leaf ⟨w.heap.size, none, 0, none, 0, []⟩, hb2, ⟨Hd.lies_mk (by rw [hw2]; exact hb1.alloc _) (RowW.nil _ _ _ _) (RowW.nil _ _ _ _) rfl rfl rfl rfl, trivial, trivial⟩, rfl, List.Pairwise.nil, Nat.zero_le _, .inl rfl, ?_, fun b => ?_⟩
    · rintro (h | ⟨_, h, _⟩ | ⟨_, h, _⟩)
      · have h2 : w.heap.size + 1 = w.heap.size := h
        omega
      · cases h
      · cases h
    · constructor
      · rintro (h | h)
        · exact .inl h
        · exact .inr (.inl h)
      · rintro (h | h | ⟨_, h, _⟩ | ⟨_, h, _⟩)
        · exact .inl h
        · exact .inr h
        · cases h
        · cases h
  have HF := Lib.hid hf
  have HE : Hid ((w.alloc (.cells #[.slice none 0 0, .slice none 0 0] 67)).alloc (.cells #[.pointer (some ⟨w.heap.size, 0, none⟩), .int .i64 0] 69) = w2) := by show _ = _; rw [hw2, hw1]
  clear hw1 hz hw2 hb1 hb2 hf
  go_enter Try.func11, Try.ntmps11
  go_wp2_with fail
  go_ret
  refine ⟨w.heap.size + 1, _, ?_, HE.out ▸ HT.out, fun b hb => ?_, HE.out ▸ HF.out⟩
  · simp
  · rcases hb with rfl | rfl <;> omega
set_option maxRecDepth 100000 in
theorem lenS_any (w : World) (g : Nat) (O : Nat → Prop) (xs : List ItS) (h : TreeS w g O xs) : Calls Try.prog 36 #[.pointer (some ⟨g, 0, none⟩)] w fun e w' => e = .returned (.int .i64 xs.length) ∧ w = w' := by
  obtain ⟨d, t, h1, _⟩ := h
  have c1 : w.cell? ⟨g, 1, none⟩ = some (.int .i64 xs.length) := h1.cell 1
  obtain ⟨n, hn⟩ : ∃ n, n = xs.length := ⟨_, rfl⟩
  rw [← hn] at c1
  have HN := Lib.hid hn
  clear h1 hn
  go_enter Try.func36, Try.ntmps36
  go_wp2_with fail
  go_ret
  exact ⟨by rw [HN.out]; rfl, rfl⟩
def TreePutS (w : World) (g : Nat) (O : Nat → Prop) (xs : List ItS) (key : Bs) (v : Int) (e : Ending) (w' : World) : Prop :=
  ∃ (old : Int) (had : Bool) (O' : Nat → Prop), e = .returned (.tuple #[.int .i64 old, .bool had]) ∧ Lk (0 : Int) key xs had old ∧ TreeS w' g O' (putL Op.bytesLess key v xs) ∧ Stp w w' O O'
set_option maxRecDepth 100000 in
set_option maxHeartbeats 4000000 in
theorem treePutS_any (w : World) (g : Nat) (O : Nat → Prop) (xs : List ItS) (h : TreeS w g O xs) (hlen : xs.length ≤ 100000) (key : Bs) (v : Int) :
    Calls Try.prog 16 #[.pointer (some ⟨g, 0, none⟩), .string (bstr key), .int .i64 v] w (TreePutS w g O xs key v) := by
  obtain ⟨d, t, h1, ho, rfl, hu, hn, hd, hg, hO⟩ := h
  have c0 : w.cell? ⟨g, 0, none⟩ = some (.pointer (some ⟨t.g, 0, none⟩)) := h1.cell 0
  have HP := Lib.hid (putS_any key v w t ho hu hn)
  have H1 := Lib.hid h1
  have HO := Lib.hid ho
  have HU := Lib.hid hu
  have HN := Lib.hid hn
  have HD := Lib.hid hd
  have HG := Lib.hid hg
  have HOO := Lib.hid hO
  have HLEN := Lib.hid hlen
  clear h1 ho hu hn hd hg hO hlen
  obtain ⟨tg, htg⟩ : ∃ tg, tg = t.g := ⟨_, rfl⟩
  rw [← htg] at c0 HP
  have HTG := Lib.hid htg
  clear htg
  go_enter Try.func16, Try.ntmps16
  go_wp2_with fail
  refine HP.out.mono ?_
  clear HP c0
  rintro e w1 ⟨old, had, t', rfl, hlk, hok, hfl, hgg, hn1, hn2, hnh, hst⟩
  have HB1 : Hid (Bk w1 g 69 #[.pointer (some ⟨tg, 0, none⟩), .int .i64 t.flat.length]) := by
    show Bk _ _ _ _
    rw [HTG.out]
    exact H1.out.fr hst.fr HG.out
  have HLK := Lib.hid hlk
  have HOK := Lib.hid hok
  have HFL := Lib.hid hfl
  have HGG : Hid (t'.g = tg) := hgg.trans HTG.out.symm
  have HN1 := Lib.hid hn1
  have HN2 := Lib.hid hn2
  have HNH := Lib.hid hnh
  have HST := Lib.hid hst
  have HUP : Hid (UpI Op.bytesLess t'.flat) := by show UpI _ _; rw [hfl]; exact HU.out.put linS
  have HG1 : Hid (¬ t'.own g) := fun e => by
    rcases hst.new g e with h | h
    · exact HG.out h
    · have := H1.out.lt; omega
  clear hlk hok hfl hgg hn1 hn2 hnh hst
  cases had with
  | true =>
    go_wp2_with fail
    go_ret2
    have hm := HLK.out.some_of
    have hlen : (putL Op.bytesLess key v t.flat).length = t.flat.length := putL_len_yes linS HU.out hm
    have hnn : t'.n = t.n := HNH.out trivial
    refine ⟨old, true, fun b => b = g ∨ t'.own b, rfl, HLK.out, ⟨d, t', ?_, HOK.out, HFL.out, HFL.out ▸ HUP.out, by rw [hnn]; exact HN.out, by rw [hnn]; exact HD.out, HG1.out, fun b => Iff.rfl⟩, HST.out.mono (fun b hb => (HOO.out b).2 (.inr hb)) fun b hb => ?_⟩
    · rw [hlen]
      have := HB1.out
      rw [← HGG.out] at this
      exact this
    · rcases hb with rfl | hb
      · exact .inr (.inl ((HOO.out _).2 (.inl rfl)))
      · exact .inl hb
  | false =>
    obtain ⟨nn, hnn⟩ : ∃ nn, nn = t.flat.length := ⟨_, rfl⟩
    have HNN := Lib.hid hnn
    have HB1' : Hid (Bk w1 g 69 #[.pointer (some ⟨tg, 0, none⟩), .int .i64 nn]) := by show Bk _ _ _ _; rw [hnn]; exact HB1.out
    have hwr : IntKind.i64.wrap ((nn : Int) + 1) = (nn : Int) + 1 := by have := HLEN.out; exact IntWalk.i64_in _ (by omega)
    have hlen : (putL Op.bytesLess key v t.flat).length = nn + 1 := by rw [hnn]; exact putL_len_no linS HLK.out.none_of
    have HPL := Lib.hid hlen
    clear hnn hlen HB1
    obtain ⟨W2, hW2⟩ : ∃ W2, W2 = w1.setCell ⟨g, 1, none⟩ (.int .i64 ((nn : Int) + 1)) := ⟨_, rfl⟩
    have hf12 : Fr (fun b => b = g) w1 W2 := by rw [hW2]; exact (Fr.refl (fun b => b = g) w1).setCell (p := ⟨g, 1, none⟩) (fun _ => rfl) _
    have HB2 : Hid (Bk W2 g 69 #[.pointer (some ⟨tg, 0, none⟩), .int .i64 ((nn : Int) + 1)]) := by show Bk _ _ _ _; rw [hW2]; exact HB1'.out.put 1 _
    have HOK2 : Hid (t'.ok tkS W2) := HOK.out.fr hf12 fun b hb e => HG1.out (e ▸ hb)
    obtain ⟨kn, hkn⟩ : ∃ kn, kn = t'.hd.xs.length := ⟨_, rfl⟩
    have HKN := Lib.hid hkn
    have c1 : w1.cell? ⟨g, 1, none⟩ = some (.int .i64 nn) := HB1'.out.cell 1
    have f1 := HB1'.out.free 1
    have c2 : (w1.setCell ⟨g, 1, none⟩ (.int .i64 ((nn : Int) + 1))).cell? ⟨g, 0, none⟩ = some (.pointer (some ⟨tg, 0, none⟩)) := by rw [← hW2]; exact HB2.out.cell 0
    have c3 : (w1.setCell ⟨g, 1, none⟩ (.int .i64 ((nn : Int) + 1))).cell? ⟨tg, 0, none⟩ = some (.slice t'.hd.A kn t'.hd.c) := by
      rw [← hW2, hkn, ← HGG.out]
      exact (Tr.lies_hd HOK2.out.lies).1.cell 0
    have HF12 := Lib.hid hf12
    clear hf12 hkn
    by_cases h17 : kn = 17
    · have hgt : (16 : Int) < (kn : Int) := by omega
      have hz2 : w1.heap.size = W2.heap.size := by rw [hW2]; simp [World.setCell]
      obtain ⟨W4, hW4⟩ : ∃ W4, W4 = (W2.alloc (.cells #[.pointer (some ⟨tg, 0, none⟩)] 63)).alloc (.cells #[.slice none 0 0, .slice (some ⟨w1.heap.size, 0, none⟩) 1 1] 67) := ⟨_, rfl⟩
      have hz3 : (W2.alloc (.cells #[.pointer (some ⟨tg, 0, none⟩)] 63)).heap.size = w1.heap.size + 1 := by rw [World.size_alloc, hz2]
      have hf24 : Fr NoBlk W2 W4 := by rw [hW4]; exact ((Fr.refl _ _).alloc _).alloc _
      have hR4 : Bk W4 w1.heap.size 63 #[.pointer (some ⟨tg, 0, none⟩)] := by rw [hW4, hz2]; exact (Bk.new _ _ _).alloc _
      have hN4 : Bk W4 (w1.heap.size + 1) 67 #[.slice none 0 0, .slice (some ⟨w1.heap.size, 0, none⟩) 1 1] := by rw [hW4, ← hz3]; exact Bk.new _ _ _
      have hB4 : Bk W4 g 69 #[.pointer (some ⟨tg, 0, none⟩), .int .i64 ((nn : Int) + 1)] := HB2.out.fr hf24 fun e => e
      obtain ⟨W5, hW5⟩ : ∃ W5, W5 = W4.setCell ⟨g, 0, none⟩ (.pointer (some ⟨w1.heap.size + 1, 0, none⟩)) := ⟨_, rfl⟩
      have hf45 : Fr (fun b => b = g) W4 W5 := by rw [hW5]; exact (Fr.refl (fun b => b = g) W4).setCell (p := ⟨g, 0, none⟩) (fun _ => rfl) _
      have HB5 : Hid (Bk W5 g 69 #[.pointer (some ⟨w1.heap.size + 1, 0, none⟩), .int .i64 ((nn : Int) + 1)]) := by show Bk _ _ _ _; rw [hW5]; exact hB4.put 0 _
      have hgl : g < w.heap.size := H1.out.lt
      have hs1 := HST.out.fr.size
      have hs2 := HF12.out.size
      have HZ : Hid (w.heap.size ≤ w1.heap.size ∧ w1.heap.size ≤ w1.heap.size ∧ w1.heap.size + 2 ≤ W5.heap.size) := by
        show _ ∧ _
        refine ⟨hs1, Nat.le_refl _, ?_⟩
        have := hf45.size
        have h4 : W4.heap.size = w1.heap.size + 2 := by rw [hW4, World.size_alloc, hz3]
        omega
      have HF25 : Hid (Fr (fun b => b = g) W2 W5) := (hf24.mono fun _ _ h => h.elim).step hf45 fun _ _ h => h
      have HOK5 : Hid (t'.ok tkS W5) := HOK2.out.fr HF25.out fun b hb e => HG1.out (e ▸ hb)
      have HN5 : Hid ((Hd.mk (w1.heap.size + 1) none 0 (some ⟨w1.heap.size, 0, none⟩) 1 ([] : List ItS)).lies tkS W5 [tg]) := by
        refine Hd.lies_mk (hN4.fr hf45 fun e => by omega) (RowW.nil _ _ _ _) (n := 0) (m := 1) (ys := []) (zs := [ptr tg]) ?_ rfl rfl rfl rfl
        exact ⟨rfl, fun u hu => by rw [List.mem_singleton] at hu; rw [hu]; rfl, .inr ⟨w1.heap.size, 1, _, rfl, Nat.zero_le _, hR4.fr hf45 fun e => by omega, Nat.le_refl _, by unfold maxLen; omega, by simp, by simp [ptr]⟩⟩
      have HKO : Hid (∀ b, t'.own b → b < w1.heap.size) := fun b hb => by
        have := HOK.out.lt hb
        have := HZ.out.2.1
        omega
      have HDJ : Hid (Dj (Hd.mk (w1.heap.size + 1) none 0 (some ⟨w1.heap.size, 0, none⟩) 1 ([] : List ItS)).own t'.own) := fun b h1 h2 => by
        have h3 := HKO.out b h2
        rcases h1 with h1 | ⟨_, h1, _⟩ | ⟨_, h1, h4⟩
        · have h5 : b = w1.heap.size + 1 := h1
          omega
        · cases h1
        · injection h1 with h1
          subst h1
          have h5 : w1.heap.size = b := h4
          omega
      have h17' : t'.n = 17 := HKN.out.symm.trans h17
      have HPT : Hid (Calls Try.prog 41 #[.pointer (some ⟨w1.heap.size + 1, 0, none⟩), .int .i64 0] W5 (PartSPost W5 (Hd.mk (w1.heap.size + 1) none 0 (some ⟨w1.heap.size, 0, none⟩) 1 ([] : List ItS)) t'.hd [tg] t'.ptrs 0)) :=
        partS_any W5 (Hd.mk (w1.heap.size + 1) none 0 (some ⟨w1.heap.size, 0, none⟩) 1 ([] : List ItS)) t'.hd [tg] t'.ptrs 0 HN5.out (Tr.lies_hd HOK5.out.lies) (by rw [← HGG.out]; rfl) (Nat.zero_le _) (Nat.zero_le _) (by show 1 ≤ 100; omega) h17' (by
          have h3 := Tr.ptrs_len HOK5.out.shape
          rw [h17'] at h3
          exact h3) (HDJ.out.mono (fun _ h => h) fun b hb => t'.own_hd hb)
      have c4 : (((w1.setCell ⟨g, 1, none⟩ (.int .i64 ((nn : Int) + 1))).alloc (.cells #[.pointer (some ⟨tg, 0, none⟩)] 63)).alloc (.cells #[.slice none 0 0, .slice (some ⟨w1.heap.size, 0, none⟩) 1 1] 67)).cell? ⟨g, 0, none⟩ = some (.pointer (some ⟨tg, 0, none⟩)) := by rw [← hW2, ← hW4]; exact hB4.cell 0
      have f4 : (((w1.setCell ⟨g, 1, none⟩ (.int .i64 ((nn : Int) + 1))).alloc (.cells #[.pointer (some ⟨tg, 0, none⟩)] 63)).alloc (.cells #[.slice none 0 0, .slice (some ⟨w1.heap.size, 0, none⟩) 1 1] 67)).frozen? ⟨g, 0, none⟩ = false := by rw [← hW2, ← hW4]; exact hB4.free 0
      have c5 : ((((w1.setCell ⟨g, 1, none⟩ (.int .i64 ((nn : Int) + 1))).alloc (.cells #[.pointer (some ⟨tg, 0, none⟩)] 63)).alloc (.cells #[.slice none 0 0, .slice (some ⟨w1.heap.size, 0, none⟩) 1 1] 67)).setCell ⟨g, 0, none⟩ (.pointer (some ⟨w1.heap.size + 1, 0, none⟩))).cell? ⟨g, 0, none⟩ = some (.pointer (some ⟨w1.heap.size + 1, 0, none⟩)) := by rw [← hW2, ← hW4, ← hW5]; exact HB5.out.cell 0
      have HE5 : Hid (((((w1.setCell ⟨g, 1, none⟩ (.int .i64 ((nn : Int) + 1))).alloc (.cells #[.pointer (some ⟨tg, 0, none⟩)] 63)).alloc (.cells #[.slice none 0 0, .slice (some ⟨w1.heap.size, 0, none⟩) 1 1] 67)).setCell ⟨g, 0, none⟩ (.pointer (some ⟨w1.heap.size + 1, 0, none⟩))) = W5) := by show _ = _; rw [← hW2, ← hW4, ← hW5]
      clear hz3 hf24 hR4 hN4 hB4 hf45 hs1 hs2 hgl h17' hW4 hW5 hW2 hz2
      go_wp2_with fail
      rw [HE5.out]
      clear HE5 c4 f4 c5
      refine HPT.out.mono ?_
      clear HPT
      rintro e w6 ⟨⟨vv, rfl⟩, h', l, r, m, hm, hx', hlx, hrx, hl', hll, hrl, hg', hlg, ho', hlo, hro, hdj, hfr⟩
      have HPP := Lib.hid (And.intro hm (And.intro hx' (And.intro hlx (And.intro hrx (And.intro hl' (And.intro hll (And.intro hrl (And.intro hg' (And.intro hlg (And.intro ho' (And.intro hlo (And.intro hro (And.intro hdj hfr)))))))))))))
      clear hm hx' hlx hrx hl' hll hrl hg' hlg ho' hlo hro hdj hfr
      go_wp2_with fail
      go_ret2
      obtain ⟨hm, hx', hlx, hrx, hl', hll, hrl, hg', hlg, ho', hlo, hro, hdj, hfr⟩ := HPP.out
      have h17' : t'.n = 17 := HKN.out.symm.trans h17
      obtain ⟨tl, tr, e1, e2, ol, or', hfl2, wl, wr, djl⟩ := Tr.parted hfr HOK5.out h17' hm hlx hrx hll hrl hlo hro (fun b hb => by
        rcases hb with hb | hb
        · exact .inr fun hk => HDJ.out b hb hk
        · exact .inl hb)
      have hkx : t'.hd.xs.length = 17 := h17'
      have hz := HZ.out
      have hgl : g < w.heap.size := H1.out.lt
      have nog : ∀ b, (Hd.mk (w1.heap.size + 1) none 0 (some ⟨w1.heap.size, 0, none⟩) 1 ([] : List ItS)).own b → w1.heap.size ≤ b := fun b hb => by
        rcases hb with h1 | ⟨_, h1, _⟩ | ⟨_, h1, h4⟩
        · have h5 : b = w1.heap.size + 1 := h1
          omega
        · cases h1
        · injection h1 with h1
          subst h1
          have h5 : w1.heap.size = b := h4
          omega
      have hhn : ∀ b, h'.own b → w1.heap.size ≤ b := fun b hb => by
        rcases ho' b hb with h | h
        · exact nog b h
        · omega
      have hxl : h'.xs = [m] := hx'
      have hpl : h'.lies tkS w6 ([tl, tr].map Tr.g) := by
        rw [show [tl, tr].map Tr.g = [tg].take (0 + 1) ++ r.g :: [tg].drop (0 + 1) by show [tl.g, tr.g] = [tg, r.g]; rw [show Tr.g tl = tg from (congrArg Hd.g e1).trans (hlg.trans HGG.out), show Tr.g tr = r.g from congrArg Hd.g e2]]
        exact hl'
      have htl8 : tl.n = 8 := by show tl.hd.xs.length = 8; rw [e1, hlx, List.length_take, hkx]; rfl
      have htr8 : tr.n = 8 := by show tr.hd.xs.length = 8; rw [e2, hrx, List.length_drop, hkx]
      have hdl : Dj h'.own tl.own := fun b h1 h2 => by
        have h3 := hhn b h1
        have h4 := HKO.out b (wl b h2)
        omega
      have hdr : Dj h'.own tr.own := fun b h1 h2 => by
        rcases wr b h2 with h | h
        · exact hdj b h1 h
        · have h3 := hhn b h1
          have h4 := HKO.out b h
          omega
      have hok6 : (Tr.node h' [tl, tr]).ok tkS w6 := by
        refine ⟨⟨hpl, fun k hk => ?_⟩, ⟨fun k hk => ?_, ?_⟩, ⟨by rw [hxl]; rfl, fun k hk => ?_⟩⟩
        · rcases List.mem_cons.1 hk with rfl | hk
          · exact ol.lies
          · obtain rfl := List.mem_singleton.1 hk; exact or'.lies
        · rcases List.mem_cons.1 hk with rfl | hk
          · exact ⟨hdl, ol.sep⟩
          · obtain rfl := List.mem_singleton.1 hk; exact ⟨hdr, or'.sep⟩
        · rw [List.pairwise_cons]; exact ⟨fun q hq => by obtain rfl := List.mem_singleton.1 hq; exact djl, List.pairwise_singleton _ _⟩
        · rcases List.mem_cons.1 hk with rfl | hk
          · exact ⟨ol.shape, by rw [htl8]; omega, by rw [htl8]; omega⟩
          · obtain rfl := List.mem_singleton.1 hk; exact ⟨or'.shape, by rw [htr8]; omega, by rw [htr8]; omega⟩
      have hflat : (Tr.node h' [tl, tr]).flat = putL Op.bytesLess key v t.flat := by
        rw [← HFL.out, ← hfl2]
        show weave ([tl, tr].map Tr.flat) h'.xs = _
        rw [hxl]
        simp [weave]
      have hng : ¬ (Tr.node h' [tl, tr]).own g := by
        rintro (h | ⟨k, hk, h⟩)
        · have := hhn g h; omega
        · rcases List.mem_cons.1 hk with rfl | hk
          · exact HG1.out (wl g h)
          · obtain rfl := List.mem_singleton.1 hk
            rcases wr g h with h | h
            · have := hro g h; omega
            · exact HG1.out h
      have hB6 : Bk w6 g 69 #[ptr (Tr.node h' [tl, tr]).g, .int .i64 (putL Op.bytesLess key v t.flat).length] := by
        have h1 := HB5.out.fr hfr fun e => by
          rcases e with e | e
          · have := nog g e; omega
          · exact HG1.out (t'.own_hd e)
        rw [HPL.out]
        have e3 : (Tr.node h' [tl, tr]).g = w1.heap.size + 1 := hg'
        rw [e3]
        exact h1
      have htO : ∀ b, t.own b → O b := fun b hb => (HOO.out b).2 (.inr hb)
      have ht' : ∀ b, t'.own b → O b ∨ w.heap.size ≤ b := fun b hb => by
        rcases HST.out.new b hb with h | h
        · exact .inl (htO b h)
        · exact .inr h
      refine ⟨old, false, fun b => b = g ∨ (Tr.node h' [tl, tr]).own b, rfl, HLK.out, ⟨d + 1, Tr.node h' [tl, tr], hB6, hok6, hflat, HFL.out ▸ HUP.out, by show h'.xs.length ≤ 16; rw [hxl]; exact Nat.succ_le_succ (Nat.zero_le _), .inr (by show 1 ≤ h'.xs.length; rw [hxl]; exact Nat.le_refl _), hng, fun b => Iff.rfl⟩, ⟨?_, fun b hb => ?_⟩⟩
      · refine (((HST.out.fr.mono fun b _ h => htO b h).step HF12.out fun b _ e => ?_).step HF25.out fun b _ e => ?_).step hfr fun b hb e => ?_
        · exact (HOO.out b).2 (.inl e)
        · exact (HOO.out b).2 (.inl e)
        · rcases e with e | e
          · have := nog b e; omega
          · rcases ht' b (t'.own_hd e) with h | h
            · exact h
            · omega
      · rcases hb with rfl | h | ⟨k, hk, h⟩
        · exact .inl ((HOO.out _).2 (.inl rfl))
        · have := hhn b h
          exact .inr (by omega)
        · rcases List.mem_cons.1 hk with rfl | hk
          · exact ht' b (wl b h)
          · obtain rfl := List.mem_singleton.1 hk
            rcases wr b h with h | h
            · have := hro b h
              exact .inr (by omega)
            · exact ht' b h
    · have hgt : ¬ (16 : Int) < (kn : Int) := by
        have h1 := HN2.out
        have h2 := HN.out
        have h3 : kn = t'.n := HKN.out
        omega
      go_wp2_with fail
      go_ret2
      rw [← hW2]
      have hn16 : t'.n ≤ 16 := by
        have h3 : kn = t'.n := HKN.out
        omega
      refine ⟨old, false, fun b => b = g ∨ t'.own b, rfl, HLK.out, ⟨d, t', ?_, HOK2.out, HFL.out, HFL.out ▸ HUP.out, hn16, ?_, HG1.out, fun b => Iff.rfl⟩, ?_⟩
      · have := HB2.out
        rw [HPL.out]
        rw [← HGG.out] at this
        exact this
      · rcases HD.out with h | h
        · exact .inl h
        · exact .inr (Nat.le_trans h HN1.out)
      · refine (Stp.trans (o1 := fun b => b = g ∨ t'.own b) (HST.out.mono (fun b hb => (HOO.out b).2 (.inr hb)) fun b hb => ?_) ⟨HF12.out.mono fun b _ e => .inl e, fun b hb => .inl hb⟩)
        rcases hb with rfl | hb
        · exact .inr (.inl ((HOO.out _).2 (.inl rfl)))
        · exact .inl hb
end Go.Proofs.Ytcpgonioobgpoaa
