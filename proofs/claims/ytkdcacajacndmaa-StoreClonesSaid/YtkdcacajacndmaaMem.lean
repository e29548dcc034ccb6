/- Words for memory, over any program: what a call leaves alone, slices that read as lists, appends to rows of the call's own, bytes as strings. No condition. -/
import Derived.WalkKit
import Derived.WalkSpells
import Derived.WalkLawsBesides
import Derived.Lib.Hide
import Derived.Maps.AppendAt
import Derived.Deep.AppendLies
import Derived.Deep.Draws
namespace Go.Proofs.Ytkdcacajacndmaa
open Go.RowKit

/-- what is left alone: of the blocks that were there all but those of C are as they were. -/
structure Fr (C : Nat → Prop) (w w' : World) : Prop where
  os : w'.os = w.os
  tape : w'.tape = w.tape
  output : w'.output = w.output
  size : w.heap.size ≤ w'.heap.size
  block : ∀ k, k < w.heap.size → ¬ C k → w'.heap[k]? = w.heap[k]?

def NoBlk : Nat → Prop := fun _ => False

section
variable {C D : Nat → Prop} {a b w w' : World}
theorem Fr.refl (C : Nat → Prop) (w : World) : Fr C w w := ⟨rfl, rfl, rfl, Nat.le_refl _, fun _ _ _ => rfl⟩
theorem Fr.step (h : Fr C a b) (k : Fr D b w) (hD : ∀ i, i < a.heap.size → D i → C i) : Fr C a w :=
  ⟨k.os.trans h.os, k.tape.trans h.tape, k.output.trans h.output, Nat.le_trans h.size k.size,
    fun i hi hn => (k.block i (Nat.lt_of_lt_of_le hi h.size) (fun hd => hn (hD i hi hd))).trans (h.block i hi hn)⟩
theorem Fr.trans (h : Fr C a b) (k : Fr C b w) : Fr C a w := h.step k fun _ _ h => h
theorem Fr.mono (h : Fr C a b) (hD : ∀ i, i < a.heap.size → C i → D i) : Fr D a b :=
  ⟨h.os, h.tape, h.output, h.size, fun i hi hn => h.block i hi fun hc => hn (hD i hi hc)⟩
theorem Fr.alloc (h : Fr C a w) (o : Obj) : Fr C a (w.alloc o) :=
  h.step (D := NoBlk) ⟨rfl, rfl, rfl, by simp, fun k hk _ => Below.heap_alloc _ _ _ hk⟩ fun _ _ h => h.elim
theorem Fr.drew (h : Fr C a w) : Fr C a w.drew := ⟨h.os, h.tape, h.output, h.size, h.block⟩
theorem Fr.drewN (h : Fr C a w) (n : Nat) : Fr C a (w.drewN n) := ⟨h.os, h.tape, h.output, h.size, h.block⟩
theorem Fr.setCell (h : Fr C a w) {p : Addr} (hp : p.block < a.heap.size → C p.block) (u : Value) : Fr C a (w.setCell p u) :=
  h.step (D := fun k => k = p.block) ⟨rfl, rfl, rfl, by simp [World.setCell], fun k _ hn => Below.heap_setCell _ _ _ _ hn⟩ fun i hi e => by subst e; exact hp hi
theorem Fr.grown (h : Fr C a w) {row : Option Nat} (hg : w.grownBy w' row) (hr : ∀ k, row = some k → k < a.heap.size → C k) : Fr C a w' :=
  h.step (D := fun k => some k = row) ⟨hg.os, hg.tape, hg.output, hg.size, fun k hk hn => hg.block k hk hn⟩ fun i hi e => hr i e.symm hi
theorem Fr.ofGrown {row : Option Nat} (hg : w.grownBy w' row) : Fr (fun k => some k = row) w w' := ⟨hg.os, hg.tape, hg.output, hg.size, fun k hk hn => hg.block k hk hn⟩
theorem Fr.ofBelow (h : Below w.heap.size w w') : Fr NoBlk w w' := ⟨h.os, h.tape, h.output, h.size, fun k hk _ => h.block k hk⟩
theorem Fr.below {B : Nat} (h : Fr C a w) (hB : B ≤ a.heap.size) (hC : ∀ k, k < B → ¬ C k) : Below B a w :=
  ⟨h.os, h.tape, h.output, h.size, fun k hk => h.block k (by omega) (hC k hk)⟩
theorem Fr.cell (h : Fr C a w) {p : Addr} (hp : p.block < a.heap.size) (hn : ¬ C p.block) : w.cell? p = a.cell? p := World.cell?_of_block (h.block _ hp hn)
theorem Fr.frozen (h : Fr C a w) {p : Addr} (hp : p.block < a.heap.size) (hn : ¬ C p.block) : w.frozen? p = a.frozen? p := World.frozen?_of_block (h.block _ hp hn)
theorem Fr.of_eq (h : a = w) : Fr C a w := h ▸ Fr.refl _ _
end

/-- one block, known whole; nothing of it is frozen. -/
def Bk (w : World) (g : Nat) (t : TypeId) (cs : Array Value) : Prop := w.heap[g]? = some (.cells cs t (0, 0))
section
variable {C : Nat → Prop} {w w' : World} {g : Nat} {t : TypeId} {cs : Array Value}
theorem Bk.lt (h : Bk w g t cs) : g < w.heap.size := (Array.getElem?_eq_some_iff.1 h).1
theorem Bk.cell (h : Bk w g t cs) (i : Nat) : w.cell? ⟨g, i, none⟩ = cs[i]? := cell_of_row w g i cs t (0, 0) h
theorem Bk.free (h : Bk w g t cs) (i : Nat) : w.frozen? ⟨g, i, none⟩ = false := by
  unfold Bk at h
  simp [World.frozen?, h]
theorem Bk.new (w : World) (t : TypeId) (cs : Array Value) : Bk (w.alloc (.cells cs t)) w.heap.size t cs := heap_alloc_new w _
theorem Bk.fr (h : Bk w g t cs) (hf : Fr C w w') (hn : ¬ C g) : Bk w' g t cs := (hf.block g h.lt hn).trans h
theorem Bk.alloc (h : Bk w g t cs) (o : Obj) : Bk (w.alloc o) g t cs := (Below.heap_alloc w o g h.lt).trans h
theorem Bk.put (h : Bk w g t cs) (i : Nat) (u : Value) : Bk (w.setCell ⟨g, i, none⟩ u) g t (cs.setIfInBounds i u) := by
  unfold Bk at h ⊢
  simp [World.setCell, Array.getElem?_modify, h]
theorem Bk.far (h : Bk w g t cs) {p : Addr} (hp : g ≠ p.block) (u : Value) : Bk (w.setCell p u) g t cs := (Below.heap_setCell w p u g hp).trans h
theorem Bk.apart {g' : Nat} {t' : TypeId} {cs' : Array Value} (h : Bk w g t cs) (h' : Bk w g' t' cs') (hne : t ≠ t') : g ≠ g' := by
  rintro rfl
  unfold Bk at h h'
  rw [h] at h'
  injection h' with h'
  injection h' with _ ht
  exact hne ht
theorem own_apart {base : Nat} {e : TypeId} {size n : Nat} {v : Value} {xs : List Value} (h : w.ownsRow base e size v n xs) (hg : Bk w g t cs) (hne : e ≠ t) : v.ownBlock ≠ some g := by
  rcases h.2 with ⟨rfl, _⟩ | ⟨g', cap, cur, rfl, _, hh, _⟩
  · simp [Value.ownBlock]
  · intro he
    have hgg : g' = g := by simpa [Value.ownBlock] using he
    subst hgg
    exact Bk.apart (t := e) hh hg hne rfl
theorem own_fr {base : Nat} {e : TypeId} {size n : Nat} {v : Value} {xs : List Value} (h : w.ownsRow base e size v n xs) (hf : Fr C w w') (hn : ∀ k, v.ownBlock = some k → ¬ C k) : w'.ownsRow base e size v n xs := by
  refine ⟨h.1, ?_⟩
  rcases h.2 with h2 | ⟨g, cap, cur, rfl, hb, hg, r⟩
  · exact .inl h2
  · exact .inr ⟨g, cap, cur, rfl, hb, (hf.block g (Array.getElem?_eq_some_iff.1 hg).1 (hn g rfl)).trans hg, r⟩
theorem own_form {base : Nat} {e : TypeId} {size n : Nat} {v : Value} {xs : List Value} (h : w.ownsRow base e size v n xs) : ∃ A c, v = .slice A n c ∧ n ≤ c ∧ (A = none → c = 0) := by
  rcases h.2 with ⟨rfl, rfl⟩ | ⟨g, cap, cur, rfl, hb', hg, hnc, r⟩
  · exact ⟨none, 0, rfl, Nat.le_refl _, fun _ => rfl⟩
  · exact ⟨_, cap, rfl, hnc, fun h => by cases h⟩
theorem own_base {base base' : Nat} {e : TypeId} {size n : Nat} {v : Value} {xs : List Value} (h : w.ownsRow base e size v n xs) (hb : base' ≤ base) : w.ownsRow base' e size v n xs := by
  refine ⟨h.1, ?_⟩
  rcases h.2 with h2 | ⟨g, cap, cur, rfl, hb', hg, r⟩
  · exact .inl h2
  · exact .inr ⟨g, cap, cur, rfl, by omega, hg, r⟩
end

/-- a slice whose elements take one cell each reads as a list; nil and empty ones let in. -/
def Rd (w : World) (A : Option Addr) (xs : List Value) : Prop :=
  0 < xs.length → ∃ b o, A = some ⟨b, o, none⟩ ∧ ∀ j v, xs[j]? = some v → w.cell? ⟨b, o + j, none⟩ = some v

def ablk (A : Option Addr) (k : Nat) : Prop := ∃ b, A = some b ∧ b.block = k

section
variable {C : Nat → Prop} {w w' : World} {A : Option Addr} {xs : List Value}
theorem Rd.none_ (w : World) (A : Option Addr) : Rd w A [] := fun h => absurd h (by simp)
theorem Rd.lt (h : Rd w A xs) (hx : 0 < xs.length) {k : Nat} (hk : ablk A k) : k < w.heap.size := by
  obtain ⟨b, o, rfl, hc⟩ := h hx
  obtain ⟨_, e, rfl⟩ := hk
  injection e with e
  subst e
  exact World.block_lt_of_cell? w _ (hc 0 _ (List.getElem?_eq_getElem hx))
theorem Rd.keep (h : Rd w A xs) (hk : ∀ p : Addr, p.block < w.heap.size → ablk A p.block → w'.cell? p = w.cell? p) : Rd w' A xs := by
  intro hx
  obtain ⟨b, o, rfl, hc⟩ := h hx
  exact ⟨b, o, rfl, fun j v hv => (hk _ (World.block_lt_of_cell? w _ (hc j v hv)) ⟨_, rfl, rfl⟩).trans (hc j v hv)⟩
theorem Rd.fr (h : Rd w A xs) (hf : Fr C w w') (hn : ∀ k, ablk A k → ¬ C k) : Rd w' A xs := h.keep fun _ hp hb => hf.cell hp (hn _ hb)
theorem Rd.fr' (h : Rd w A xs) (hf : Fr C w w') (hn : 0 < xs.length → ∀ k, ablk A k → ¬ C k) : Rd w' A xs := fun hx => (h.fr hf (hn hx)) hx
theorem Rd.nofr (h : Rd w A xs) (hf : Fr NoBlk w w') : Rd w' A xs := h.fr hf fun _ _ h => h
theorem Rd.below {B : Nat} (h : Rd w A xs) (hb : Below B w w') (hn : ∀ k, ablk A k → k < B) : Rd w' A xs := h.keep fun _ _ hk => hb.cell (hn _ hk)
theorem Rd.alloc (h : Rd w A xs) (o : Obj) : Rd (w.alloc o) A xs := h.nofr ((Fr.refl _ _).alloc o)
theorem Rd.at_ {k : Nat} {v : Value} (h : Rd w A xs) (hk : xs[k]? = some v) : ∃ b o, A = some ⟨b, o, none⟩ ∧ w.cell? ⟨b, o + k, none⟩ = some v := by
  have hl := (List.getElem?_eq_some_iff.1 hk).1
  obtain ⟨b, o, rfl, hc⟩ := h (by omega)
  exact ⟨b, o, rfl, hc k v hk⟩
theorem Rd.cut (h : Rd w A xs) {k cap : Nat} (hk : k ≤ xs.length) (hc : xs.length ≤ cap) : Rd w (if cap = k then A else A.map (·.add k)) (xs.drop k) := by
  intro hx
  rw [List.length_drop] at hx
  obtain ⟨b, o, rfl, hcell⟩ := h (by omega)
  rw [if_neg (by omega)]
  refine ⟨b, o + k, ?_, fun j v hv => ?_⟩
  · show some (Addr.add ⟨b, o, none⟩ k) = _
    unfold Addr.add
    split <;> simp_all
  · rw [List.getElem?_drop] at hv
    have := hcell _ _ hv
    rwa [show o + k + j = o + (k + j) by omega]
theorem Rd.take (h : Rd w A xs) (k : Nat) : Rd w A (xs.take k) := by
  intro hx
  obtain ⟨b, o, rfl, hc⟩ := h (by rw [List.length_take] at hx; omega)
  refine ⟨b, o, rfl, fun j v hv => hc j v ?_⟩
  rw [List.getElem?_take] at hv
  split at hv
  · exact hv
  · cases hv
theorem Rd.of_own {base : Nat} {e : TypeId} {n c : Nat} (h : w.ownsRow base e 1 (.slice A n c) n xs) : Rd w A xs := by
  intro hx
  rcases h.2 with ⟨hv, rfl⟩ | ⟨g, cap, cur, hv, _, hh, hnc, _, hcs, htake⟩
  · have := h.1; omega
  · have hA : A = some ⟨g, 0, none⟩ := by injection hv
    refine ⟨g, 0, hA, fun j v hj => ?_⟩
    rw [cell_of_row w g _ cur e (0, 0) hh, ← hj, ← htake, List.getElem?_take]
    have hl := (List.getElem?_eq_some_iff.1 hj).1
    rw [if_pos (by have := h.1; omega)]
    simp
theorem Rd.of_cells {g : Nat} {t : TypeId} {cs : Array Value} (h : Bk w g t cs) : Rd w (some ⟨g, 0, none⟩) cs.toList :=
  fun _ => ⟨g, 0, rfl, fun j v hv => by rw [h.cell, Nat.zero_add, ← hv]; simp⟩
end

theorem Rd.new_marked (w : World) (xs : List Value) (t : TypeId) (m : Nat × Nat) : Rd (w.alloc (.cells xs.toArray t m)) (some ⟨w.heap.size, 0, none⟩) xs := by
  intro _
  refine ⟨w.heap.size, 0, rfl, fun j v hv => ?_⟩
  rw [Nat.zero_add, cell_of_row _ w.heap.size j xs.toArray t m (heap_alloc_new w _), ← hv]
  simp

/-- bytes as cells. -/
def cb (l : List UInt8) : List Value := l.map fun x => .int .u8 (x.toNat : Int)
theorem cb_length (l : List UInt8) : (cb l).length = l.length := by simp [cb]
theorem cb_append (l m : List UInt8) : cb (l ++ m) = cb l ++ cb m := by simp [cb]
theorem cb_get (l : List UInt8) (k : Nat) (h : k < l.length) : (cb l)[k]? = some (.int .u8 ((l.getD k 0).toNat : Int)) := by
  simp [cb, h, List.getD_eq_getElem?_getD]
theorem cb_one (l : List UInt8) : ∀ u ∈ cb l, u.oneCell' = true := by
  intro u hu
  simp only [cb, List.mem_map] at hu
  obtain ⟨x, _, rfl⟩ := hu
  rfl
theorem cb_drop (l : List UInt8) (k : Nat) : cb (l.drop k) = (cb l).drop k := by simp [cb, List.map_drop]
theorem cb_take (l : List UInt8) (k : Nat) : cb (l.take k) = (cb l).take k := by simp [cb, List.map_take]
theorem Rd.byte {w : World} {A : Option Addr} {l : List UInt8} (h : Rd w A (cb l)) {k : Nat} (hk : k < l.length) :
    ∃ b o, A = some ⟨b, o, none⟩ ∧ w.cell? ⟨b, o + k, none⟩ = some (.int .u8 ((l.getD k 0).toNat : Int)) := h.at_ (cb_get l k hk)

section
/- append to a row of the call's own, whatever is appended: nil, empty or not. -/
variable {P : Program}
theorem run_app (w : World) (base : Nat) (t ty e : TypeId) (i : TypeInfo) (z : Value) (bytes : Nat) (ht : P.underlying t = some (.slice e)) (hi : P.info? e = some i) (hz : i.zero = some z)
    (hsize : i.size = 1) (hby : i.bytes = bytes) (hzs : z.cells.size = 1)
    (v : Value) (n : Nat) (xs : List Value) (hown : w.ownsRow base e 1 v n xs)
    (A : Option Addr) (c m : Nat) (news : List Value) (hm : news.length = m) (hr : Rd w A news) (h1 : ∀ u ∈ news, u.oneCell' = true)
    (hA : A = none → c = 0)
    (h63 : n + m ≤ maxLen) (hbytes : (n + m) * bytes ≤ 140737488355328) (hbase : base ≤ w.heap.size) :
    ∃ v' w', (Builtin.append_ #[t, t] ty #[v, .slice A m c]).run P w = .ok v' w' ∧ w'.ownsRow base e 1 v' (n + m) (xs ++ news) ∧ w.grownBy w' v.ownBlock ∧
      (v' = .slice none 0 0 ↔ v = .slice none 0 0 ∧ m = 0) ∧ (v'.ownBlock = v.ownBlock ∨ v'.ownBlock = some w.heap.size) := by
  subst hm
  rcases A with _ | ad
  · have hn : news = [] := by
      rcases Nat.eq_zero_or_pos news.length with h0 | h0
      · exact List.eq_nil_of_length_eq_zero h0
      · obtain ⟨_, _, h, _⟩ := hr h0
        cases h
    subst hn
    obtain rfl := hA rfl
    exact ⟨v, w, run_append_owned_none w base t ty e i 1 ht hi v n xs hown, by simpa using hown, World.grownBy.refl w _, by simp, .inl rfl⟩
  · exact run_append_own_at (P := P) w base t ty e i z 1 bytes ht hi hz hsize hby hzs (by decide) v n xs hown ad news.length c news (by simp)
      (fun j u hu => by
        obtain ⟨b, o, e', hc⟩ := hr (by have := (List.getElem?_eq_some_iff.1 hu).1; omega)
        injection e' with e'
        subst e'
        have := hc j u hu
        unfold Addr.add
        split
        · subst j; simpa using this
        · exact this) h1 h63 hbytes hbase

theorem wpList_app {w : World} {ops : Array Oper} {rest : List Oper} {o : Oper} {a : Act} {Q : Exit → Act → World → Prop} (hgd : o.guard = none) (s x : Operand) (t : TypeId)
    (ho : o.op = .call { callee := .builtin .append, args := #[s, x], argTypes := #[t, t] })
    (base : Nat) (e : TypeId) (i : TypeInfo) (z : Value) (bytes : Nat) (ht : P.underlying t = some (.slice e)) (hi : P.info? e = some i) (hz : i.zero = some z)
    (hsize : i.size = 1) (hby : i.bytes = bytes) (hzs : z.cells.size = 1)
    (v : Value) (n : Nat) (xs : List Value) (hs : a.eval s = v) (hown : w.ownsRow base e 1 v n xs)
    (A : Option Addr) (c m : Nat) (news : List Value) (hx : a.eval x = .slice A m c) (hm : news.length = m) (hr : Rd w A news) (h1 : ∀ u ∈ news, u.oneCell' = true)
    (hA : A = none → c = 0)
    (h63 : n + m ≤ maxLen) (hbytes : (n + m) * bytes ≤ 140737488355328) (hbase : base ≤ w.heap.size)
    (h : ∀ v' w', w'.ownsRow base e 1 v' (n + m) (xs ++ news) → w.grownBy w' v.ownBlock → (v' = .slice none 0 0 ↔ v = .slice none 0 0 ∧ m = 0) → (v'.ownBlock = v.ownBlock ∨ v'.ownBlock = some w.heap.size) →
      wpList P ops Q rest (a.put o.dst v') w') : wpList P ops Q (o :: rest) a w :=
  wpList_plain hgd fun K hK => by
    obtain ⟨v', w', hrun, h2, h3, h4, h5⟩ := run_app (P := P) w base t o.type e i z bytes ht hi hz hsize hby hzs v n xs hown A c m news hm hr h1 hA h63 hbytes hbase
    unfold Oper.wp execOp
    simp only [ho, resolve, invoke, builtin, Sem.run_bind, Sem.run_pure, Result.andThen_ok, List.map_toArray, List.map_cons, List.map_nil, hs, hx, hrun]
    exact hK _ _ (h v' w' h2 h3 h4 h5)

/-- bytes as a string. -/
theorem run_str (w : World) (src dst e : TypeId) (hs : P.underlying src = some (.slice e)) (he : P.underlying e = some (.int .u8)) (hd : P.underlying dst = some .string)
    (A : Option Addr) (c : Nat) (l : List UInt8) (n : Nat) (hn : n = l.length) (hr : Rd w A (cb l)) :
    (convert src dst (.slice A n c)).run P w = .ok (.string ⟨l.toArray⟩) w := by
  subst hn
  rcases A with _ | ad
  · have hl : l = [] := by
      rcases Nat.eq_zero_or_pos l.length with h0 | h0
      · exact List.eq_nil_of_length_eq_zero h0
      · obtain ⟨_, _, h, _⟩ := hr (by rw [cb_length]; exact h0)
        cases h
    subst hl
    show (convert src dst (.slice none 0 c)).run P w = _
    rw [run_convert_bytes_string w src dst e none 0 c hs he hd]
    simp [Conv.bytesToString]
    rfl
  · rw [run_convert_bytes_string w src dst e (some ad) _ c hs he hd]
    have hload : (loadCells ad l.length).run P w = .ok ((l.map fun x => ((x.toNat : Nat) : Int)).map (Value.int .u8)).toArray w := by
      have hf := run_firstCells_some (P := P) w 1 l.length ad l.length c (cb l) (by simp [cb]) (fun j u hu => by
        obtain ⟨b, o, e', hc⟩ := hr (by have := (List.getElem?_eq_some_iff.1 hu).1; omega)
        injection e' with e'
        subst e'
        have := hc j u hu
        unfold Addr.add
        split
        · subst j; simpa using this
        · exact this)
      simpa [Builtin.firstCells, cb, List.map_map, Function.comp_def] using hf
    rw [run_bytesToString w ad l.length c _ hload]
    congr 2
    have key : ∀ (m : List UInt8) (s : ByteArray), (m.map fun x => ((x.toNat : Nat) : Int)).foldl (fun r n => r.push (UInt8.ofNat n.toNat)) s = ⟨s.data ++ m.toArray⟩ := by
      intro m
      induction m with
      | nil => intro s; simp
      | cons x t ih =>
        intro s
        rw [List.map_cons, List.foldl_cons, ih]
        congr 1
        show (s.data.push _) ++ _ = _
        rw [← Array.toList_inj]
        simp
    rw [key]
    simp [ByteArray.empty, ByteArray.emptyWithCapacity]
    rfl
end
end Go.Proofs.Ytkdcacajacndmaa
