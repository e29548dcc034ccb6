/- Records and stores as the world holds them; pure: what the calls leave. No condition. -/
import Derived.Test.YtkdcacajacndmaaN4R
import Derived.Test.YtkdcacajacndmaaPen2
namespace Go.Proofs.Ytkdcacajacndmaa
open Go.RowKit
/-- a record. -/
structure Rec where
  has : Bool
  val : Bs
  home : Int
  count : Nat
abbrev Rw := Bs × Rec
/-- a block of bytes. -/
def Byt (W : World) (k : Nat) : Prop := ∃ cs fr, W.heap[k]? = some (.cells cs 5 fr)
theorem Byt.fr {C : Nat → Prop} {W W' : World} {k : Nat} (h : Byt W k) (hf : Fr C W W') (hn : ¬ C k) : Byt W' k := by
  obtain ⟨cs, fr, e⟩ := h
  exact ⟨cs, fr, (hf.block k (Array.getElem?_eq_some_iff.1 e).1 hn).trans e⟩
theorem Byt.lt {W : World} {k : Nat} (h : Byt W k) : k < W.heap.size := by
  obtain ⟨cs, fr, e⟩ := h
  exact (Array.getElem?_eq_some_iff.1 e).1
theorem Byt.no {W : World} {g : Nat} {t : TypeId} {cs : Array Value} (h : Bk W g t cs) (ht : t ≠ 5) : ¬ Byt W g := fun ⟨_, _, e⟩ => by
  unfold Bk at h
  rw [h] at e
  injection e with e
  injection e with _ e
  exact ht e
theorem Byt.own {W : World} {base size n k : Nat} {v : Value} {xs : List Value} (h : W.ownsRow base 5 size v n xs) (hk : v.ownBlock = some k) : Byt W k := by
  rcases h.2 with ⟨rfl, _⟩ | ⟨g, cap, cur, rfl, _, hh, _⟩
  · cases hk
  · have e1 : g = k := by simpa [Value.ownBlock] using hk
    subst e1
    exact ⟨_, _, hh⟩
/-- a block that no store holds, if any. -/
class Ex where
  x : Option Nat
def ExL [Ex] (N : Nat) : Prop := ∀ k, Ex.x = some k → k < N
theorem ExL.le [Ex] {N M : Nat} (h : ExL N) (hm : N ≤ M) : ExL M := fun k e => Nat.lt_of_lt_of_le (h k e) hm
section
variable [Ex]
/-- a record's value in memory: its bytes lie in a block of bytes, not in that one. -/
structure Reads (w : World) (v : VaR) (r : Rec) : Prop where
  has : v.has = r.has
  home : v.home = r.home
  count : v.count = r.count
  len : v.vn = r.val.length
  nil : v.va = none → v.vc = 0
  rd : Rd w v.va (cb r.val)
  byt : ∀ k, ablk v.va k → Byt w k ∧ Ex.x ≠ some k
theorem Reads.frx {C : Nat → Prop} {w w' : World} {v : VaR} {r : Rec} (h : Reads w v r) (hf : Fr C w w') (hn : ∀ k, Byt w k → Ex.x ≠ some k → ¬ C k) : Reads w' v r :=
  ⟨h.has, h.home, h.count, h.len, h.nil, h.rd.fr hf fun k hk => hn k (h.byt k hk).1 (h.byt k hk).2, fun k hk => ⟨(h.byt k hk).1.fr hf (hn k (h.byt k hk).1 (h.byt k hk).2), (h.byt k hk).2⟩⟩
theorem Reads.fr {C : Nat → Prop} {w w' : World} {v : VaR} {r : Rec} (h : Reads w v r) (hf : Fr C w w') (hn : ∀ k, Byt w k → ¬ C k) : Reads w' v r := h.frx hf fun k hk _ => hn k hk
theorem Reads.nofr {w w' : World} {v : VaR} {r : Rec} (h : Reads w v r) (hf : Fr NoBlk w w') : Reads w' v r := h.fr hf fun _ _ e => e
end
/-- a row of the store: key, value in memory, record. -/
abbrev Zr := Bs × (VaR × Rec)
def vz (zs : List Zr) : List ItR := zs.map fun z => (z.1, z.2.1)
def rz (zs : List Zr) : List Rw := zs.map fun z => (z.1, z.2.2)
section
variable {K V U : Type} {lt : K → K → Bool}
theorem putL_map (f : V → U) (key : K) (v : V) (xs : List (K × V)) : (putL lt key v xs).map (fun z => (z.1, f z.2)) = putL lt key (f v) (xs.map fun z => (z.1, f z.2)) := by
  unfold putL
  simp only [List.map_append, List.map_cons, List.filter_map]
  rfl
theorem delL_map (f : V → U) (key : K) (xs : List (K × V)) : (delL lt key xs).map (fun z => (z.1, f z.2)) = delL lt key (xs.map fun z => (z.1, f z.2)) := by
  unfold delL
  rw [List.filter_map]
  rfl
theorem geL_map (f : V → U) (key : K) (xs : List (K × V)) : (geL lt key xs).map (fun z => (z.1, f z.2)) = geL lt key (xs.map fun z => (z.1, f z.2)) := by
  unfold geL
  rw [List.filter_map]
  rfl
theorem mem_putL' {key : K} {v : V} {xs : List (K × V)} {z : K × V} (h : z ∈ putL lt key v xs) : z = (key, v) ∨ z ∈ xs := by
  unfold putL at h
  rw [List.mem_append, List.mem_cons] at h
  rcases h with h | h | h
  · exact .inr (List.mem_filter.1 h).1
  · exact .inl h
  · exact .inr (List.mem_filter.1 h).1
theorem mem_delL' {key : K} {xs : List (K × V)} {z : K × V} (h : z ∈ delL lt key xs) : z ∈ xs := (List.mem_filter.1 h).1
theorem putL_le (key : K) (v : V) {xs : List (K × V)} : (putL lt key v xs).length ≤ 2 * xs.length + 1 := by
  unfold putL
  rw [List.length_append, List.length_cons]
  have h1 := List.length_filter_le (fun p : K × V => lt p.1 key) xs
  have h2 := List.length_filter_le (fun p : K × V => lt key p.1) xs
  omega
theorem putL_le1 (L : Lin lt) (key : K) (v : V) {xs : List (K × V)} : (putL lt key v xs).length ≤ xs.length + 1 := by
  unfold putL
  rw [List.length_append, List.length_cons]
  have : (xs.filter fun p => lt p.1 key).length + (xs.filter fun p => lt key p.1).length ≤ xs.length := by
    induction xs with
    | nil => exact Nat.le_refl _
    | cons x t ih =>
      have e : (t.filter fun p => lt p.1 key).length ≤ t.length := List.length_filter_le ..
      cases e1 : lt x.1 key with
      | true =>
        simp only [List.filter_cons, e1, L.asymm e1, if_true, List.length_cons]
        simp only [Bool.false_eq_true, if_false]
        omega
      | false =>
        simp only [List.filter_cons, e1, List.length_cons, Bool.false_eq_true, if_false]
        split
        · rw [List.length_cons]; omega
        · omega
  omega
theorem delL_le (key : K) {xs : List (K × V)} : (delL lt key xs).length ≤ xs.length := List.length_filter_le ..
end
theorem vz_put (key : Bs) (v : VaR) (r : Rec) (zs : List Zr) : vz (putL Op.bytesLess key (v, r) zs) = putL Op.bytesLess key v (vz zs) := putL_map (lt := Op.bytesLess) (fun p : VaR × Rec => p.1) key (v, r) zs
theorem rz_put (key : Bs) (v : VaR) (r : Rec) (zs : List Zr) : rz (putL Op.bytesLess key (v, r) zs) = putL Op.bytesLess key r (rz zs) := putL_map (lt := Op.bytesLess) (fun p : VaR × Rec => p.2) key (v, r) zs
theorem vz_del (key : Bs) (zs : List Zr) : vz (delL Op.bytesLess key zs) = delL Op.bytesLess key (vz zs) := delL_map (lt := Op.bytesLess) (fun p : VaR × Rec => p.1) key zs
theorem rz_del (key : Bs) (zs : List Zr) : rz (delL Op.bytesLess key zs) = delL Op.bytesLess key (rz zs) := delL_map (lt := Op.bytesLess) (fun p : VaR × Rec => p.2) key zs
theorem vz_ge (key : Bs) (zs : List Zr) : vz (geL Op.bytesLess key zs) = geL Op.bytesLess key (vz zs) := geL_map (lt := Op.bytesLess) (fun p : VaR × Rec => p.1) key zs
theorem rz_ge (key : Bs) (zs : List Zr) : rz (geL Op.bytesLess key zs) = geL Op.bytesLess key (rz zs) := geL_map (lt := Op.bytesLess) (fun p : VaR × Rec => p.2) key zs
theorem vz_len (zs : List Zr) : (vz zs).length = zs.length := List.length_map ..
theorem rz_len (zs : List Zr) : (rz zs).length = zs.length := List.length_map ..
theorem rz_up {zs : List Zr} (h : UpI Op.bytesLess (vz zs)) : UpI Op.bytesLess (rz zs) := by
  unfold UpI vz at h
  unfold UpI rz
  rw [List.pairwise_map] at h ⊢
  exact h

/-- a key's first home. -/
def homeOf (key : Bs) (n : Int) : Int := if n < 1 then 0 else (((key.map fun b => b.toNat).sum : Nat) : Int) % n
/-- what a key has. -/
def rget (n : Int) (rs : List Rw) (key : Bs) : Rec := ((rs.find? fun x => x.1 == key).map fun x => x.2).getD ⟨false, [], homeOf key n, 0⟩
/-- a key has a record. -/
def rset (rs : List Rw) (key : Bs) (r : Rec) : List Rw := if r.has || r.count != 0 then putL Op.bytesLess key r rs else delL Op.bytesLess key rs
theorem rset_le (rs : List Rw) (key : Bs) (r : Rec) : (rset rs key r).length ≤ rs.length + 1 := by
  unfold rset
  split
  · exact putL_le1 linS key r
  · have := delL_le (lt := Op.bytesLess) key (xs := rs)
    omega
theorem rget_yes {n : Int} {rs : List Rw} (hu : UpI Op.bytesLess rs) {key : Bs} {r : Rec} (h : (key, r) ∈ rs) : rget n rs key = r := by
  unfold rget
  cases hf : rs.find? fun x => x.1 == key with
  | none =>
    have := List.find?_eq_none.1 hf (key, r) h
    simp at this
  | some x =>
    have h1 := List.mem_of_find?_eq_some hf
    have h2 := List.find?_some hf
    have h3 : x.1 = key := by simpa using h2
    obtain ⟨k, r'⟩ := x
    dsimp only at h3
    subst h3
    exact hu.one linS h1 h
theorem rget_no {n : Int} {rs : List Rw} {key : Bs} (h : ∀ r, (key, r) ∉ rs) : rget n rs key = ⟨false, [], homeOf key n, 0⟩ := by
  unfold rget
  cases hf : rs.find? fun x => x.1 == key with
  | none => rfl
  | some x =>
    have h1 := List.mem_of_find?_eq_some hf
    have h2 := List.find?_some hf
    have h3 : x.1 = key := by simpa using h2
    obtain ⟨k, r'⟩ := x
    dsimp only at h3
    subst h3
    exact absurd h1 (h r')
section
variable [Ex]
/-- a store in memory: block g; O are its blocks, g among them; rs are its rows. -/
structure StoreIn (w : World) (g gt : Nat) (O OT : Nat → Prop) (n : Nat) (zs : List Zr) : Prop where
  bk : Bk w g 68 #[.int .i64 (n : Int), .pointer (some ⟨gt, 0, none⟩)]
  tr : TreeR w gt OT (vz zs)
  rd : ∀ z ∈ zs, Reads w z.2.1 z.2.2
  own : ∀ b, O b ↔ (b = g ∨ OT b)
  ne : ¬ OT g
  n3 : 1 ≤ n ∧ n ≤ 3
  cnt : ∀ z ∈ zs, z.2.2.count < 2 ^ 64
  lx : ExL w.heap.size
def Store (w : World) (g : Nat) (O : Nat → Prop) (n : Nat) (rs : List Rw) : Prop := ∃ gt OT zs, StoreIn w g gt O OT n zs ∧ rs = rz zs
end
theorem TreeR.nb {w : World} {g : Nat} {O : Nat → Prop} {xs : List ItR} (h : TreeR w g O xs) {b : Nat} (hb : O b) : ¬ Byt w b := by
  obtain ⟨d, t, h1, h2, h3, h4, h5, h6, h7, h8⟩ := h
  rcases (h8 b).1 hb with rfl | hb
  · exact Byt.no h1 (by decide)
  · obtain ⟨T, cs, hbk, hT⟩ := Tr.own_ty t h2.lies hb
    refine Byt.no hbk ?_
    rcases hT with e | e | e <;> (rw [e]; unfold tkR; decide)
section
variable [Ex] {w w' : World} {g gt n : Nat} {O OT C : Nat → Prop} {zs : List Zr} {rs : List Rw}
theorem StoreIn.nb (h : StoreIn w g gt O OT n zs) {b : Nat} (hb : O b) : ¬ Byt w b := by
  rcases (h.own b).1 hb with rfl | hb
  · exact Byt.no h.bk (by decide)
  · exact h.tr.nb hb
theorem StoreIn.lt (h : StoreIn w g gt O OT n zs) {b : Nat} (hb : O b) : b < w.heap.size := by
  rcases (h.own b).1 hb with rfl | hb
  · exact h.bk.lt
  · exact h.tr.lt hb
theorem StoreIn.frx (h : StoreIn w g gt O OT n zs) (hf : Fr C w w') (hn : ∀ b, O b → ¬ C b) (hb : ∀ k, Byt w k → Ex.x ≠ some k → ¬ C k) : StoreIn w' g gt O OT n zs :=
  ⟨h.bk.fr hf (hn _ ((h.own g).2 (.inl rfl))), h.tr.fr hf fun b hx => hn b ((h.own b).2 (.inr hx)), fun z hz => (h.rd z hz).frx hf hb, h.own, h.ne, h.n3, h.cnt, h.lx.le hf.size⟩
theorem StoreIn.fr (h : StoreIn w g gt O OT n zs) (hf : Fr C w w') (hn : ∀ b, O b → ¬ C b) (hb : ∀ k, Byt w k → ¬ C k) : StoreIn w' g gt O OT n zs := h.frx hf hn fun k hk _ => hb k hk
theorem Store.frx (h : Store w g O n rs) (hf : Fr C w w') (hn : ∀ b, O b → ¬ C b) (hb : ∀ k, Byt w k → Ex.x ≠ some k → ¬ C k) : Store w' g O n rs := by
  obtain ⟨gt, OT, zs, h, e⟩ := h
  exact ⟨gt, OT, zs, h.frx hf hn hb, e⟩
theorem Store.fr (h : Store w g O n rs) (hf : Fr C w w') (hn : ∀ b, O b → ¬ C b) (hb : ∀ k, Byt w k → ¬ C k) : Store w' g O n rs := h.frx hf hn fun k hk _ => hb k hk
theorem Store.lx (h : Store w g O n rs) : ExL w.heap.size := by
  obtain ⟨gt, OT, zs, h, e⟩ := h
  exact h.lx
theorem Store.nofr (h : Store w g O n rs) (hf : Fr NoBlk w w') : Store w' g O n rs := h.fr hf (fun _ _ e => e) fun _ _ e => e
theorem Store.nb (h : Store w g O n rs) {b : Nat} (hb : O b) : ¬ Byt w b := by
  obtain ⟨gt, OT, zs, h, e⟩ := h
  exact h.nb hb
theorem Store.lt (h : Store w g O n rs) {b : Nat} (hb : O b) : b < w.heap.size := by
  obtain ⟨gt, OT, zs, h, e⟩ := h
  exact h.lt hb
theorem Store.self (h : Store w g O n rs) : O g := by
  obtain ⟨gt, OT, zs, h, e⟩ := h
  exact (h.own g).2 (.inl rfl)
theorem Store.up (h : Store w g O n rs) : UpI Op.bytesLess rs := by
  obtain ⟨gt, OT, zs, h, e⟩ := h
  rw [e]
  exact rz_up h.tr.up
theorem Store.n3 (h : Store w g O n rs) : 1 ≤ n ∧ n ≤ 3 := by
  obtain ⟨gt, OT, zs, h, e⟩ := h
  exact h.n3
theorem Store.cnt (h : Store w g O n rs) : ∀ x ∈ rs, x.2.count < 2 ^ 64 := by
  obtain ⟨gt, OT, zs, h, rfl⟩ := h
  intro x hx
  obtain ⟨z, hz, rfl⟩ := List.mem_map.1 hx
  exact h.cnt z hz
end
/-- another block, made since. -/
theorem Reads.other [Ex] {o : Option Nat} {w w' : World} {v : VaR} {r : Rec} (h : Reads w v r) (hf : Fr NoBlk w w') (hx : ∀ k, o = some k → w.heap.size ≤ k) : @Reads ⟨o⟩ w' v r := by
  have h2 := h.nofr hf
  exact @Reads.mk ⟨o⟩ _ _ _ h2.has h2.home h2.count h2.len h2.nil h2.rd fun k hk => ⟨(h2.byt k hk).1, fun e => by
    have h3 := (h.byt k hk).1.lt
    have := hx k e
    omega⟩
theorem Store.other [Ex] {o : Option Nat} {w w' : World} {g n : Nat} {O : Nat → Prop} {rs : List Rw} (h : Store w g O n rs) (hf : Fr NoBlk w w') (hx : ∀ k, o = some k → w.heap.size ≤ k) (hl : @ExL ⟨o⟩ w'.heap.size) : @Store ⟨o⟩ w' g O n rs := by
  obtain ⟨gt, OT, zs, h, e⟩ := h
  exact ⟨gt, OT, zs, @StoreIn.mk ⟨o⟩ _ _ _ _ _ _ _ (h.bk.fr hf fun e => e) (h.tr.fr hf fun _ _ e => e) (fun z hz => (h.rd z hz).other hf hx) h.own h.ne h.n3 h.cnt hl, e⟩
end Go.Proofs.Ytkdcacajacndmaa
