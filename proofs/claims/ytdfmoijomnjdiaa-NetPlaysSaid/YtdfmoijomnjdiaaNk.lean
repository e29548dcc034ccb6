/- A net made since a law's first world, beside blocks that stay; its calls in that form. Conditions: at most 1000000 bytes of data. -/
import Derived.Test.YtdfmoijomnjdiaaCp
import Derived.Test.YtdfmoijomnjdiaaSm
namespace Go.Proofs.Ytdfmoijomnjdiaa
open Go.RowKit

abbrev Vl := Int × Int × Int × Int × Int × Int × List UInt8
theorem map_erase {α β : Type} (f : α → β) (xs : List α) (k : Nat) : (xs.map f).eraseIdx k = (xs.eraseIdx k).map f := by
  rw [List.eraseIdx_eq_take_drop_succ, List.eraseIdx_eq_take_drop_succ, List.map_append, List.map_take, List.map_drop]
/-- the net behind g holds the parcels vs, in blocks made since w, none of them in S. -/
structure NK (w W : World) (S : Nat → Prop) (g : Nat) (vs : List Vl) : Prop where
  ex : ∃ (O : Nat → Prop) (a : Option Addr) (c : Nat) (ps : List Pc), NtIn O W g a c ps ∧ ps.map pvl = vs ∧ ∀ k, O k → w.heap.size ≤ k ∧ ¬ S k
theorem NK.nofr {w W W' : World} {S : Nat → Prop} {g : Nat} {vs : List Vl} (h : NK w W S g vs) (hf : Fr NoBlk W W') : NK w W' S g vs := by
  obtain ⟨O, a, c, ps, h1, h2, h3⟩ := h.ex
  exact ⟨O, a, c, ps, h1.nofr hf, h2, h3⟩
theorem NK.far {w W W' : World} {S : Nat → Prop} {g : Nat} {vs : List Vl} (h : NK w W S g vs) (hf : Fr S W W') : NK w W' S g vs := by
  obtain ⟨O, a, c, ps, h1, h2, h3⟩ := h.ex
  exact ⟨O, a, c, ps, h1.fr hf (fun k hk => (h3 k hk).2), h2, h3⟩
theorem NK.sub {w W : World} {S S' : Nat → Prop} {g : Nat} {vs : List Vl} (h : NK w W S g vs) (hS : ∀ k, S' k → S k ∨ W.heap.size ≤ k) : NK w W S' g vs := by
  obtain ⟨O, a, c, ps, h1, h2, h3⟩ := h.ex
  exact ⟨O, a, c, ps, h1, h2, fun k hk => ⟨(h3 k hk).1, fun e => by
    rcases hS k e with e | e
    · exact (h3 k hk).2 e
    · have := h1.ol k hk; omega⟩⟩
/-- one more block is kept: one that is made here. -/
theorem NK.made {w W : World} {S : Nat → Prop} {g : Nat} {vs : List Vl} (h : NK w W S g vs) (o : Obj) : NK w (W.alloc o) (fun k => S k ∨ k = W.heap.size) g vs := (h.sub fun k hk => hk.imp id fun e => by omega).nofr ((Fr.refl _ _).alloc _)
theorem made_lt {W : World} {S : Nat → Prop} (hS : ∀ k, S k → k < W.heap.size) (o : Obj) : ∀ k, (S k ∨ k = W.heap.size) → k < (W.alloc o).heap.size := fun k hk => by
  have : (W.alloc o).heap.size = W.heap.size + 1 := by simp
  rcases hk with hk | hk
  · have := hS k hk; omega
  · omega
/-- blocks made since w that are none of S. -/
def Out (w : World) (S : Nat → Prop) : Nat → Prop := fun k => w.heap.size ≤ k ∧ ¬ S k
theorem Out.none_ {w W W' : World} {S : Nat → Prop} (hf : Fr NoBlk w W) (h : Fr (Out w S) W W') : Fr NoBlk w W' := hf.step h fun k hk e => by have := e.1; omega
theorem Out.keep {w W W' : World} {S : Nat → Prop} (_h : Fr (Out w S) W W') {k : Nat} (hk : S k ∨ k < w.heap.size) : ¬ Out w S k := fun e => by
  rcases hk with hk | hk
  · exact e.2 hk
  · have := e.1; omega
theorem Rd.out {w W W' : World} {S : Nat → Prop} {A : Option Addr} {xs : List Value} (h : Rd w A xs) (hw : Fr NoBlk w W) (hf : Fr (Out w S) W W') : Rd W' A xs := h.nofr (Out.none_ hw hf)

theorem nk_new (w W : World) (S : Nat → Prop) (hf : Fr NoBlk w W) (hS : ∀ k, S k → k < W.heap.size) : Calls Try.prog 7 #[] W fun e W' => ∃ g, e = .returned (.pointer (some ⟨g, 0, none⟩)) ∧ NK w W' S g [] ∧ Fr NoBlk W W' := by
  refine (new_any W).mono ?_
  rintro e W' ⟨g, he, hn, hf', hg⟩
  refine ⟨g, he, ⟨_, _, _, _, hn, rfl, fun k hk => ?_⟩, hf'⟩
  subst hk
  have := hf.size
  exact ⟨by omega, fun e => by have := hS _ e; omega⟩
section
variable {w W : World} {S : Nat → Prop} {g : Nat} {vs : List Vl} (h : NK w W S g vs) (hw : Fr NoBlk w W) (hS : ∀ k, S k → k < W.heap.size)
include h
theorem nk_len : Calls Try.prog 16 #[.pointer (some ⟨g, 0, none⟩)] W fun e W' => e = .returned (.int .i64 (vs.length : Int)) ∧ W = W' := by
  obtain ⟨O, a, c, ps, h1, h2, h3⟩ := h.ex
  refine (len_any W O g a c ps h1).mono ?_
  rintro e W' ⟨rfl, rfl⟩
  exact ⟨by rw [← h2, List.length_map], rfl⟩
theorem nk_take (k : Int) : Calls Try.prog 8 #[.pointer (some ⟨g, 0, none⟩), .int .i64 k] W fun e W' =>
    Fr (Out w S) W W' ∧ ((hasB vs.length k = true ∧ ∃ p, vs[k.toNat]? = some (pvl p) ∧ e = .returned (.tuple #[.agg #[.int .i64 p.src, .int .i64 p.dst, .int .u64 p.ep, .int .u64 p.pe, .int .u64 p.sq, .int .u64 p.ak, .slice p.d.1 p.d.2.2.length p.d.2.1], .bool true]) ∧ Rd W' p.d.1 (cb p.d.2.2) ∧ NK w W' S g (vs.eraseIdx k.toNat)) ∨
      (hasB vs.length k = false ∧ e = .returned (.tuple #[.agg #[.int .i64 0, .int .i64 0, .int .u64 0, .int .u64 0, .int .u64 0, .int .u64 0, .slice none 0 0], .bool false]) ∧ NK w W' S g vs)) := by
  obtain ⟨O, a, c, ps, h1, h2, h3⟩ := h.ex
  have hl : vs.length = ps.length := by rw [← h2, List.length_map]
  refine (take_any W O g a c ps h1 k).mono ?_
  intro e W' hp
  unfold TakePost at hp
  rw [hl]
  by_cases hb : hasB ps.length k = true
  · rw [if_pos hb] at hp
    obtain ⟨p, A, c1, hp, rfl, hf, hn, hd⟩ := hp
    refine ⟨hf.mono fun k _ hk => h3 k hk, .inl ⟨hb, p, by rw [← h2, List.getElem?_map, hp]; rfl, rfl, Rd.of_own hd.1, ⟨O, A, c1, _, hn, by rw [← h2, map_erase], h3⟩⟩⟩
  · rw [if_neg hb] at hp
    obtain ⟨rfl, hf⟩ := hp
    exact ⟨hf.mono fun _ _ e => e.elim, .inr ⟨by simpa using hb, rfl, h.nofr hf⟩⟩
theorem nk_drop (k : Int) : Calls Try.prog 11 #[.pointer (some ⟨g, 0, none⟩), .int .i64 k] W fun e W' =>
    e = .returned (.bool (hasB vs.length k)) ∧ Fr (Out w S) W W' ∧ NK w W' S g (if hasB vs.length k = true then vs.eraseIdx k.toNat else vs) := by
  obtain ⟨O, a, c, ps, h1, h2, h3⟩ := h.ex
  have hl : vs.length = ps.length := by rw [← h2, List.length_map]
  refine (drop_any W O g a c ps h1 k).mono ?_
  rintro e W' ⟨rfl, hf, A, c1, hn⟩
  rw [hl]
  refine ⟨rfl, hf.mono fun k _ hk => h3 k hk, ⟨O, A, c1, _, hn, ?_, h3⟩⟩
  unfold dropL
  by_cases hb : hasB ps.length k = true
  · rw [if_pos hb, if_pos hb, ← h2, map_erase]
  · rw [if_neg hb, if_neg hb, h2]
include hw hS
omit h in
theorem nk_plus {O : Nat → Prop} {W' : World} (h3 : ∀ k, O k → w.heap.size ≤ k ∧ ¬ S k) : ∀ k, Plus O W W' k → w.heap.size ≤ k ∧ ¬ S k := fun k hk => by
  rcases hk with hk | hk
  · exact h3 k hk
  · have := hw.size
    exact ⟨by omega, fun e => by have := hS k e; omega⟩
theorem nk_send (p : Pc) (hr : Rd W p.d.1 (cb p.d.2.2)) (hA : p.d.1 = none → p.d.2.1 = 0) (hd : p.d.2.2.length ≤ 1000000) :
    Calls Try.prog 15 #[.pointer (some ⟨g, 0, none⟩), .agg #[.int .i64 p.src, .int .i64 p.dst, .int .u64 p.ep, .int .u64 p.pe, .int .u64 p.sq, .int .u64 p.ak, .slice p.d.1 p.d.2.2.length p.d.2.1]] W fun e W' =>
      Fr (Out w S) W W' ∧ ((4000 ≤ vs.length ∧ e = .returned (.int .i64 2) ∧ NK w W' S g vs) ∨ (vs.length < 4000 ∧ e = .returned (.int .i64 0) ∧ NK w W' S g (vs ++ [pvl p]))) := by
  obtain ⟨O, a, c, ps, h1, h2, h3⟩ := h.ex
  have hl : vs.length = ps.length := by rw [← h2, List.length_map]
  refine (send_any W O g a c ps h1 p hr hA hd).mono ?_
  intro e W' hp
  unfold SendPost at hp
  by_cases hb : 4000 ≤ ps.length
  · rw [if_pos hb] at hp
    exact ⟨hp.2.mono fun _ _ e => e.elim, .inl ⟨by omega, hp.1, h.nofr hp.2⟩⟩
  · rw [if_neg hb] at hp
    obtain ⟨rfl, hf, A, c1, d, hd', hn⟩ := hp
    refine ⟨hf.mono fun k _ hk => h3 k hk, .inr ⟨by omega, rfl, ⟨_, A, c1, _, hn, ?_, nk_plus hw hS h3⟩⟩⟩
    rw [List.map_append, h2]
    unfold pvl
    simp only [List.map_cons, List.map_nil, hd']
theorem nk_copy (k : Int) : Calls Try.prog 14 #[.pointer (some ⟨g, 0, none⟩), .int .i64 k] W fun e W' =>
    Fr (Out w S) W W' ∧ ((hasB vs.length k = true ∧ vs.length < 4000 ∧ e = .returned (.bool true) ∧ ∃ v, vs[k.toNat]? = some v ∧ NK w W' S g (vs ++ [v])) ∨ (¬ (hasB vs.length k = true ∧ vs.length < 4000) ∧ e = .returned (.bool false) ∧ NK w W' S g vs)) := by
  obtain ⟨O, a, c, ps, h1, h2, h3⟩ := h.ex
  have hl : vs.length = ps.length := by rw [← h2, List.length_map]
  refine (copy_any W O g a c ps h1 k).mono ?_
  intro e W' hp
  unfold CopyPost at hp
  rw [hl]
  by_cases hb : hasB ps.length k = true ∧ ps.length < 4000
  · rw [if_pos hb] at hp
    obtain ⟨rfl, hf, p, A, c1, d, hp, hd', hn⟩ := hp
    refine ⟨hf.mono fun k _ hk => h3 k hk, .inl ⟨hb.1, hb.2, rfl, pvl p, by rw [← h2, List.getElem?_map, hp]; rfl, ⟨_, A, c1, _, hn, ?_, nk_plus hw hS h3⟩⟩⟩
    rw [List.map_append, h2]
    unfold pvl
    simp only [List.map_cons, List.map_nil, hd']
  · rw [if_neg hb] at hp
    exact ⟨hp.2.mono fun _ _ e => e.elim, .inr ⟨hb, hp.1, h.nofr hp.2⟩⟩
end
theorem noS (W : World) : ∀ k, (fun (_ : Nat) => False) k → k < W.heap.size := fun _ h => h.elim
/-- a parcel with its first number alone. -/
def pv1 (x : Int) : Vl := (x, 0, 0, 0, 0, 0, [])

set_option maxRecDepth 100000 in
set_option maxHeartbeats 4000000 in
theorem speaks_any (w : World) : Calls Try.prog 6 #[] w fun e w' => e = .returned (.bool true) ∧ Fr NoBlk w w' := by
  go_enter Try.func6, Try.ntmps6
  go_wp2_with fail
  refine (nk_new w w (fun _ => False) (Fr.refl _ _) (noS w)).mono ?_
  rintro e w1 ⟨g, rfl, hn, hf⟩
  have HN := Lib.hid hn
  have HF := Lib.hid hf
  clear hn hf
  go_wp2_with fail
  refine (nk_send HN.out HF.out (noS w1) ⟨1, 0, 0, 0, 0, 0, none, 0, []⟩ (Rd.none_ _ _) (fun _ => rfl) (by simp)).mono ?_
  rintro e w2 ⟨hf, ⟨h4, _⟩ | ⟨_, rfl, hn⟩⟩
  · simp at h4
  have HN2 := Lib.hid hn
  have HF2 := Lib.hid (Out.none_ HF.out hf)
  clear hn hf HN HF
  go_wp2_with fail
  refine (nk_send HN2.out HF2.out (noS w2) ⟨2, 0, 0, 0, 0, 0, none, 0, []⟩ (Rd.none_ _ _) (fun _ => rfl) (by simp)).mono ?_
  rintro e w3 ⟨hf, ⟨h4, _⟩ | ⟨_, rfl, hn⟩⟩
  · simp at h4
  have HN3 := Lib.hid hn
  have HF3 := Lib.hid (Out.none_ HF2.out hf)
  clear hn hf HN2 HF2
  go_wp2_with fail
  refine (nk_copy HN3.out HF3.out (noS w3) 0).mono ?_
  rintro e w4 ⟨hf, ⟨_, _, rfl, v, hv, hn⟩ | ⟨hb, _⟩⟩
  rotate_left
  · exact absurd ⟨by simp [hasB], by simp⟩ hb
  obtain rfl : pvl ⟨1, 0, 0, 0, 0, 0, none, 0, []⟩ = v := by simpa using hv
  have HN4 := Lib.hid hn
  have HF4 := Lib.hid (Out.none_ HF3.out hf)
  clear hn hf hv HN3 HF3
  go_wp2_with fail
  refine (nk_take HN4.out 0).mono ?_
  rintro e w5 ⟨hf, ⟨_, p, hp, rfl, _, hn⟩ | ⟨hb, _⟩⟩
  rotate_left
  · simp [hasB] at hb
  have HP1 : Hid (p.src = 1) := by
    show _ = _
    symm
    simp only [Int.toNat_zero, List.nil_append, List.cons_append, List.getElem?_cons_zero, Option.some.injEq] at hp
    exact congrArg (fun q => q.1) hp
  obtain ⟨w6, hw6⟩ : ∃ w6, w6 = w5.alloc (.cells (pca p) 35) := ⟨_, rfl⟩
  have hn6 := hn.made (Obj.cells (pca p) 35)
  rw [← hw6] at hn6
  have HN6 := Lib.hid hn6
  clear hn6
  have HS6 : Hid (∀ k, (False ∨ k = w5.heap.size) → k < w6.heap.size) := by rw [hw6]; exact made_lt (noS w5) _
  have HF6 : Hid (Fr NoBlk w w6) := by show Fr _ _ _; rw [hw6]; exact (Out.none_ HF4.out hf).alloc _
  have HBA : Hid (Bk w6 w5.heap.size 35 (pca p)) := by show Bk _ _ _ _; rw [hw6]; exact Bk.new _ _ _
  unfold pca at hw6
  clear hn hf hp HN4 HF4
  go_wp2_with fail
  rw [← hw6]
  clear hw6
  refine (nk_take HN6.out 0).mono ?_
  rintro e w7 ⟨hf, ⟨_, q, hp, rfl, _, hn⟩ | ⟨hb, _⟩⟩
  rotate_left
  · simp [hasB] at hb
  have HQ1 : Hid (q.src = 2) := by
    show _ = _
    symm
    simp only [Int.toNat_zero, List.nil_append, List.cons_append, List.eraseIdx_cons_zero, List.getElem?_cons_zero, Option.some.injEq] at hp
    exact congrArg (fun q => q.1) hp
  obtain ⟨w8, hw8⟩ : ∃ w8, w8 = w7.alloc (.cells (pca q) 35) := ⟨_, rfl⟩
  have hn8 := hn.made (Obj.cells (pca q) 35)
  rw [← hw8] at hn8
  have HN8 := Lib.hid hn8
  clear hn8
  have HF8 : Hid (Fr NoBlk w w8) := by show Fr _ _ _; rw [hw8]; exact (Out.none_ HF6.out hf).alloc _
  have HBA8 : Hid (Bk w8 w5.heap.size 35 (pca p)) := by show Bk _ _ _ _; rw [hw8]; exact (HBA.out.fr hf (Out.keep hf (.inl (.inr rfl)))).alloc _
  have HBB : Hid (Bk w8 w7.heap.size 35 (pca q)) := by show Bk _ _ _ _; rw [hw8]; exact Bk.new _ _ _
  unfold pca at hw8
  clear hn hf hp HN6 HF6 HBA HS6
  go_wp2_with fail
  rw [← hw8]
  clear hw8
  refine (nk_take HN8.out 0).mono ?_
  rintro e w9 ⟨hf, ⟨_, r, hp, rfl, _, hn⟩ | ⟨hb, _⟩⟩
  rotate_left
  · simp [hasB] at hb
  have HR1 : Hid (r.src = 1) := by
    show _ = _
    symm
    simp only [Int.toNat_zero, List.nil_append, List.cons_append, List.eraseIdx_cons_zero, List.getElem?_cons_zero, Option.some.injEq] at hp
    exact congrArg (fun q => q.1) hp
  obtain ⟨wz, hwz⟩ : ∃ wz, wz = w9.alloc (.cells (pca r) 35) := ⟨_, rfl⟩
  have hnZ := hn.made (Obj.cells (pca r) 35)
  rw [← hwz] at hnZ
  have HNZ := Lib.hid hnZ
  clear hnZ
  have HFZ : Hid (Fr NoBlk w wz) := by show Fr _ _ _; rw [hwz]; exact (Out.none_ HF8.out hf).alloc _
  have hba : Bk wz w5.heap.size 35 (pca p) := by rw [hwz]; exact (HBA8.out.fr hf (Out.keep hf (.inl (.inl (.inr rfl))))).alloc _
  have hbb : Bk wz w7.heap.size 35 (pca q) := by rw [hwz]; exact (HBB.out.fr hf (Out.keep hf (.inl (.inr rfl)))).alloc _
  have hbc : Bk wz w9.heap.size 35 (pca r) := by rw [hwz]; exact Bk.new _ _ _
  have ca : wz.cell? ⟨w5.heap.size, 0, none⟩ = some (.int .i64 1) := by rw [← HP1.out]; exact hba.cell 0
  have cb' : wz.cell? ⟨w7.heap.size, 0, none⟩ = some (.int .i64 2) := by rw [← HQ1.out]; exact hbb.cell 0
  have cc : wz.cell? ⟨w9.heap.size, 0, none⟩ = some (.int .i64 1) := by rw [← HR1.out]; exact hbc.cell 0
  unfold pca at hwz
  clear hn hf hp HN8 HF8 HBA8 HBB hba hbb hbc
  go_upto_region 10 with fail
  rw [← hwz]
  clear hwz
  go_wp2_with fail
  refine (nk_len HNZ.out).mono ?_
  rintro e w' ⟨rfl, rfl⟩
  simp only [List.nil_append, List.cons_append, List.eraseIdx_cons_zero, Int.toNat_zero, List.length_nil]
  go_wp2_with fail
  go_ret
  exact ⟨rfl, HFZ.out⟩
end Go.Proofs.Ytdfmoijomnjdiaa
