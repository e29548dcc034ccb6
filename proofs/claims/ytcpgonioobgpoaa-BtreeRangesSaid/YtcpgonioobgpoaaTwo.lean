/- A tree and the document's list side by side. Conditions: at most 100000 keys. -/
import Derived.Test.YtcpgonioobgpoaaDt3
import Derived.Test.YtcpgonioobgpoaaN16S
import Derived.Test.YtcpgonioobgpoaaN6S
import Derived.Test.YtcpgonioobgpoaaSpeaks2
namespace Go.Proofs.Ytcpgonioobgpoaa
open Go.RowKit
section
variable {K V : Type} {lt : K → K → Bool}
theorem mem_one (L : Lin lt) {key : K} {u v : V} {xs : List (K × V)} (hu : UpI lt xs) (h1 : (key, u) ∈ xs) (h2 : (key, v) ∈ xs) : u = v := by
  obtain ⟨P, Q, rfl⟩ := mem_split h1
  obtain ⟨h3, h4⟩ := up_mid L hu
  rcases List.mem_append.1 h2 with h | h
  · rcases List.mem_append.1 h with h | h
    · have := h3 _ h; rw [L.irr] at this; cases this
    · have := List.mem_singleton.1 h; injection this with _ e; exact e.symm
  · have := h4 _ h; rw [L.irr] at this; cases this
theorem Lk.one (L : Lin lt) {z v v' : V} {key : K} {xs : List (K × V)} {b b' : Bool} (hu : UpI lt xs) (h : Lk z key xs b v) (h' : Lk z key xs b' v') : b = b' ∧ v = v' := by
  rcases h with ⟨rfl, h⟩ | ⟨rfl, rfl, h⟩ <;> rcases h' with ⟨rfl, h'⟩ | ⟨rfl, rfl, h'⟩
  · exact ⟨rfl, mem_one L hu h h'⟩
  · exact absurd h (h' _)
  · exact absurd h' (h _)
  · exact ⟨rfl, rfl⟩
theorem putL_le (L : Lin lt) {key : K} {v : V} {xs : List (K × V)} (hu : UpI lt xs) : (putL lt key v xs).length ≤ xs.length + 1 := by
  by_cases h : ∃ u, (key, u) ∈ xs
  · obtain ⟨u, h⟩ := h
    rw [putL_len_yes L hu h]
    exact Nat.le_succ _
  · rw [putL_len_no L fun u hu => h ⟨u, hu⟩]
    exact Nat.le_refl _
theorem delL_le {key : K} {xs : List (K × V)} : (delL lt key xs).length ≤ xs.length := List.length_filter_le _ _
end
theorem FstS.one {key k k' : Bs} {b b' : Bool} {xs : List ItS} (h : FstS key xs k b) (h' : FstS key xs k' b') : b = b' ∧ k = k' := by
  rcases h with ⟨rfl, v, t, h⟩ | ⟨rfl, rfl, h⟩ <;> rcases h' with ⟨rfl, v', t', h'⟩ | ⟨rfl, rfl, h'⟩
  · rw [h] at h'; injection h' with e _; injection e with e _; exact ⟨rfl, e⟩
  · rw [h] at h'; cases h'
  · rw [h] at h'; cases h'
  · exact ⟨rfl, rfl⟩
/-- the program's tree g of xs, the document's gm of ys, both made since world W, and blocks K that neither turns. -/
structure Two (W : World) (K : Nat → Prop) (g gm : Nat) (xs ys : List ItS) (O : Nat → Prop) (A : Option Addr) (c : Nat) (wr : World) : Prop where
  t : TreeS wr g O xs
  r : RT wr W.heap.size gm A c ys
  o : ∀ b, O b → W.heap.size ≤ b
  dj : Dj O (rtO gm A)
  up : UpI Op.bytesLess ys
  fr : Fr NoBlk W wr
  k : ∀ b, K b → b < wr.heap.size ∧ ¬ O b ∧ ¬ rtO gm A b
def TwoK (W : World) (K : Nat → Prop) (g gm : Nat) (xs ys : List ItS) (wr : World) : Prop := ∃ O A c, Two W K g gm xs ys O A c wr
section
variable {W wr w' : World} {K : Nat → Prop} {g gm : Nat} {xs ys : List ItS}
theorem TwoK.nofr (h : TwoK W K g gm xs ys wr) (hf : Fr NoBlk wr w') : TwoK W K g gm xs ys w' := by
  obtain ⟨O, A, c, h⟩ := h
  exact ⟨O, A, c, h.t.nofr hf, h.r.nofr hf, h.o, h.dj, h.up, h.fr.trans hf, fun b hb => ⟨Nat.lt_of_lt_of_le (h.k b hb).1 hf.size, (h.k b hb).2⟩⟩
theorem TwoK.free (h : TwoK W K g gm xs ys wr) : TwoK W (fun _ => False) g gm xs ys wr := by
  obtain ⟨O, A, c, h⟩ := h
  exact ⟨O, A, c, h.t, h.r, h.o, h.dj, h.up, h.fr, fun b hb => hb.elim⟩
theorem TwoK.fr (h : TwoK W K g gm xs ys wr) : Fr NoBlk W wr := by obtain ⟨O, A, c, h⟩ := h; exact h.fr
theorem TwoK.up (h : TwoK W K g gm xs ys wr) : UpI Op.bytesLess ys := by obtain ⟨O, A, c, h⟩ := h; exact h.up
theorem TwoK.upx (h : TwoK W K g gm xs ys wr) : UpI Op.bytesLess xs := by obtain ⟨O, A, c, h⟩ := h; exact h.t.up
/-- a block made now. -/
theorem TwoK.made (h : TwoK W (fun _ => False) g gm xs ys wr) (o : Obj) : TwoK W (fun b => b = wr.heap.size) g gm xs ys (wr.alloc o) := by
  obtain ⟨O, A, c, h⟩ := h
  have hf : Fr NoBlk wr (wr.alloc o) := (Fr.refl _ _).alloc _
  refine ⟨O, A, c, h.t.nofr hf, h.r.nofr hf, h.o, h.dj, h.up, h.fr.trans hf, fun b hb => ?_⟩
  subst hb
  exact ⟨by rw [World.size_alloc]; omega, fun e => by have := h.t.lt e; omega, fun e => by have := (h.r.lt e).2; omega⟩
theorem two_tree {O O' : Nat → Prop} {A : Option Addr} {c : Nat} {zs : List ItS} (h : Two W K g gm xs ys O A c wr) (ht : TreeS w' g O' zs) (hs : Stp wr w' O O') : TwoK W K g gm zs ys w' ∧ Keep K wr w' := by
  have hfr := (Stp.no h.fr hs h.o)
  refine ⟨⟨O', A, c, ht, h.r.fr hs.fr fun b hb e => h.dj b e hb, hfr.2, fun b x y => ?_, h.up, hfr.1, fun b hb => ⟨Nat.lt_of_lt_of_le (h.k b hb).1 hs.fr.size, fun e => ?_, (h.k b hb).2.2⟩⟩, hs.fr.keep fun b hb => ⟨(h.k b hb).1, (h.k b hb).2.1⟩⟩
  · rcases hs.new b x with x | x
    · exact h.dj b x y
    · have := (h.r.lt y).2; omega
  · rcases hs.new b e with e | e
    · exact (h.k b hb).2.1 e
    · have := (h.k b hb).1; omega
theorem two_ref {O : Nat → Prop} {A : Option Addr} {c : Nat} {zs : List ItS} (h : Two W K g gm xs ys O A c wr) (hp : RPut wr w' W.heap.size gm A zs) (hz : UpI Op.bytesLess zs) : TwoK W K g gm xs zs w' ∧ Keep K wr w' := by
  obtain ⟨A', c', hr, hs⟩ := hp
  refine ⟨⟨O, A', c', h.t.fr hs.fr fun b hb e => h.dj b hb e, hr, h.o, fun b x y => ?_, hz, h.fr.step hs.fr fun i hi e => by have := (h.r.lt e).1; omega, fun b hb => ⟨Nat.lt_of_lt_of_le (h.k b hb).1 hs.fr.size, (h.k b hb).2.1, fun e => ?_⟩⟩, hs.fr.keep fun b hb => ⟨(h.k b hb).1, (h.k b hb).2.2⟩⟩
  · rcases hs.new b y with y | y
    · exact h.dj b x y
    · have := h.t.lt x; omega
  · rcases hs.new b e with e | e
    · exact (h.k b hb).2.2 e
    · have := (h.k b hb).1; omega
/-- what a call on either leaves. -/
def TwoPost (W : World) (K : Nat → Prop) (g gm : Nat) (zs xs' ys' : List ItS) (key : Bs) (wr : World) (e : Ending) (w' : World) : Prop :=
  ∃ (old : Int) (had : Bool), e = .returned (.tuple #[.int .i64 old, .bool had]) ∧ Lk (0 : Int) key zs had old ∧ TwoK W K g gm xs' ys' w' ∧ Keep K wr w'
theorem two_put (h : TwoK W K g gm xs ys wr) (hn : xs.length ≤ 99999) (key : Bs) (v : Int) :
    Calls Try.prog 16 #[.pointer (some ⟨g, 0, none⟩), .string (bstr key), .int .i64 v] wr (TwoPost W K g gm xs (putL Op.bytesLess key v xs) ys key wr) := by
  obtain ⟨O, A, c, h⟩ := h
  refine (treePutS_any wr g O xs h.t (by omega) key v).mono ?_
  rintro e w' ⟨old, had, O', rfl, hl, ht, hs⟩
  exact ⟨old, had, rfl, hl, two_tree h ht hs⟩
theorem two_del (h : TwoK W K g gm xs ys wr) (hn : xs.length ≤ 99999) (key : Bs) :
    Calls Try.prog 12 #[.pointer (some ⟨g, 0, none⟩), .string (bstr key)] wr (TwoPost W K g gm xs (delL Op.bytesLess key xs) ys key wr) := by
  obtain ⟨O, A, c, h⟩ := h
  refine (treeDelS_any wr g O xs h.t (by omega) key).mono ?_
  rintro e w' ⟨old, had, O', rfl, hl, ht, hs⟩
  exact ⟨old, had, rfl, hl, two_tree h ht hs⟩
theorem two_get (h : TwoK W K g gm xs ys wr) (key : Bs) :
    Calls Try.prog 14 #[.pointer (some ⟨g, 0, none⟩), .string (bstr key)] wr (TwoPost W K g gm xs xs ys key wr) := by
  have h0 := h
  obtain ⟨O, A, c, h⟩ := h
  refine (treeGetS_any wr g O xs h.t key).mono ?_
  rintro e w' ⟨old, had, rfl, hl, hf⟩
  exact ⟨old, had, rfl, hl, h0.nofr hf, hf.keep fun b hb => ⟨(h.k b hb).1, fun e => e⟩⟩
theorem two_rput (h : TwoK W K g gm xs ys wr) (hn : ys.length ≤ 99999) (key : Bs) (v : Int) :
    Calls Try.prog 17 #[.pointer (some ⟨gm, 0, none⟩), .string (bstr key), .int .i64 v] wr (TwoPost W K g gm ys xs (putL Op.bytesLess key v ys) key wr) := by
  obtain ⟨O, A, c, h⟩ := h
  refine (rput_any wr W.heap.size gm A c ys h.r h.up (by omega) h.fr.size key v).mono ?_
  rintro e w' ⟨old, had, rfl, hl, hp⟩
  exact ⟨old, had, rfl, hl, two_ref h hp (h.up.put linS)⟩
theorem two_rdel (h : TwoK W K g gm xs ys wr) (hn : ys.length ≤ 99999) (key : Bs) :
    Calls Try.prog 13 #[.pointer (some ⟨gm, 0, none⟩), .string (bstr key)] wr (TwoPost W K g gm ys xs (delL Op.bytesLess key ys) key wr) := by
  obtain ⟨O, A, c, h⟩ := h
  refine (rdel_any wr W.heap.size gm A c ys h.r h.up (by omega) h.fr.size key).mono ?_
  rintro e w' ⟨old, had, rfl, hl, hp⟩
  exact ⟨old, had, rfl, hl, two_ref h hp h.up.del⟩
theorem two_rget (h : TwoK W K g gm xs ys wr) (hn : ys.length ≤ 99999) (key : Bs) :
    Calls Try.prog 15 #[.pointer (some ⟨gm, 0, none⟩), .string (bstr key)] wr (TwoPost W K g gm ys xs ys key wr) := by
  have h0 := h
  obtain ⟨O, A, c, h⟩ := h
  refine (rget_any wr W.heap.size gm A c ys h.r h.up (by omega) key).mono ?_
  rintro e w' ⟨old, had, rfl, hl, hf⟩
  exact ⟨old, had, rfl, hl, h0.nofr hf, hf.keep fun b hb => ⟨(h.k b hb).1, fun e => e⟩⟩
def TwoFst (W : World) (K : Nat → Prop) (g gm : Nat) (zs xs ys : List ItS) (key : Bs) (wr : World) (e : Ending) (w' : World) : Prop :=
  ∃ (k : Bs) (b : Bool), e = .returned (.tuple #[.string (bstr k), .bool b]) ∧ FstS key zs k b ∧ TwoK W K g gm xs ys w' ∧ Keep K wr w'
theorem two_first (h : TwoK W K g gm xs ys wr) (key : Bs) :
    Calls Try.prog 18 #[.pointer (some ⟨g, 0, none⟩), .string (bstr key)] wr (TwoFst W K g gm xs xs ys key wr) := by
  have h0 := h
  obtain ⟨O, A, c, h⟩ := h
  refine (treeFirstS_any wr g O xs h.t key).mono ?_
  rintro e w' ⟨k, b, rfl, hl, hf⟩
  exact ⟨k, b, rfl, hl, h0.nofr hf, hf.keep fun b hb => ⟨(h.k b hb).1, fun e => e⟩⟩
theorem two_rfirst (h : TwoK W K g gm xs ys wr) (hn : ys.length ≤ 99999) (key : Bs) :
    Calls Try.prog 19 #[.pointer (some ⟨gm, 0, none⟩), .string (bstr key)] wr (TwoFst W K g gm ys xs ys key wr) := by
  have h0 := h
  obtain ⟨O, A, c, h⟩ := h
  refine (rfirst_any wr W.heap.size gm A c ys h.r h.up (by omega) key).mono ?_
  rintro e w' ⟨k, b, rfl, hl, hf⟩
  exact ⟨k, b, rfl, hl, h0.nofr hf, hf.keep fun b hb => ⟨(h.k b hb).1, fun e => e⟩⟩
/-- both are new. -/
theorem TwoK.new {w1 w2 : World} {O : Nat → Prop} (h1 : Fr NoBlk W w1) (ht : TreeS w2 g O []) (hO : ∀ b, O b → w1.heap.size ≤ b) (hf : Fr NoBlk w1 w2) :
    TwoK W (fun _ => False) g w2.heap.size [] [] (w2.alloc (.cells #[.slice none 0 0] 30)) := by
  have hfa : Fr NoBlk w2 (w2.alloc (.cells #[.slice none 0 0] 30)) := (Fr.refl _ _).alloc _
  refine ⟨O, none, 0, ht.nofr hfa, ⟨Bk.new _ _ _, (h1.trans hf).size, RowW.nil _ _ _ _⟩, fun b hb => Nat.le_trans h1.size (hO b hb), fun b x y => ?_, List.Pairwise.nil, (h1.trans hf).trans hfa, fun _ h => h.elim⟩
  rcases y with rfl | ⟨_, e, _⟩
  · have := ht.lt x; omega
  · cases e
end
end Go.Proofs.Ytcpgonioobgpoaa
