/- The document's disk as the world holds it. No condition but lengths. The document's put and drop. No condition but lengths. The document's put. No condition but lengths. The document's Sync, Read, Remove, Rename. No condition but lengths. The document's Read, Remove, Rename. No condition but lengths. The document's Append. No condition but lengths; the bytes lie in other memory than the disk. The document's Crash. No condition but lengths. A disk and the document's beside each other, and memory of the law's own. No condition but lengths. What the document's calls ask of a disk stays behind each call. Plain mathematics. No condition. The document's Save and Load. Conditions: lengths. -/
import Derived.Test.YtokonhcphhpogaaDoorCrash2
import Derived.Test.YtokonhcphhpogaaDoorAtS2
import Derived.IntWalk
import Derived.Deep.RegionHeld3
import Derived.BigQuiet
import Derived.Test.YtokonhcphhpogaaDoorRUnpack
import Derived.Test.YtokonhcphhpogaaDoorRPack
import Derived.Test.YtokonhcphhpogaaDoorSave
namespace Go.Proofs.YtokonhcphhpogaaDoor
open Go.RowKit

theorem find_named {L : List PF} {k : Bs} (h : k ∈ L.map (·.name)) : ∃ f, pfind L k = some f := by
  induction L with
  | nil => cases h
  | cons f t ih =>
    by_cases e : f.name = k
    · exact ⟨f, by simp [pfind, e]⟩
    · rcases List.mem_cons.1 h with h | h
      · exact absurd h.symm e
      · obtain ⟨g, hg⟩ := ih h
        exact ⟨g, by simp [pfind, e, hg]⟩
/-- a file of the document's disk: where its bytes lie. -/
structure RF where
  pf : PF
  A : Option Addr
  c : Nat
structure RM where
  g : Nat
  room : Nat
  left : Int
  down : Bool
  FA : Option Addr
  FC : Nat
  fs : List RF
abbrev RM.pfs (m : RM) : List PF := m.fs.map RF.pf
def RM.pd (m : RM) : PD := ⟨m.room, m.left, m.down, m.pfs⟩
def RM.cells (m : RM) : Array Value := #[.int .i64 m.room, .slice m.FA m.fs.length m.FC, .int .i64 m.left, .bool m.down]
def rfc (f : RF) : List Value := [st f.pf.name, .slice f.A f.pf.data.length f.c, .int .i64 f.pf.last]
def rfcs (xs : List RF) : List Value := xs.flatMap rfc
theorem rfcs_len (xs : List RF) : (rfcs xs).length = xs.length * 3 := by
  induction xs with
  | nil => rfl
  | cons x t ih =>
    show (rfc x ++ rfcs t).length = _
    rw [List.length_append, ih, List.length_cons]
    show 3 + _ = _
    omega
theorem rfcs_append (xs ys : List RF) : rfcs (xs ++ ys) = rfcs xs ++ rfcs ys := List.flatMap_append ..
theorem rfcs_get (xs : List RF) (k : Nat) (x : RF) (h : xs[k]? = some x) (j : Nat) (hj : j < 3) : (rfcs xs)[k * 3 + j]? = (rfc x)[j]? := by
  induction xs generalizing k with
  | nil => cases h
  | cons y t ih =>
    cases k with
    | zero =>
      injection h with h
      subst h
      show (rfc y ++ rfcs t)[_]? = _
      rw [List.getElem?_append_left (by show _ < 3; omega), Nat.zero_mul, Nat.zero_add]
    | succ k =>
      show (rfc y ++ rfcs t)[_]? = _
      rw [List.getElem?_append_right (by show 3 ≤ _; omega), show (k + 1) * 3 + j - (rfc y).length = k * 3 + j from by show _ - 3 = _; omega]
      exact ih k h
theorem rfcs_set (xs : List RF) (k : Nat) (x y : RF) (h : xs[k]? = some x) (j : Nat) (hj : j < 3) (u : Value) (hu : (rfc x).set j u = rfc y) : (rfcs xs).set (k * 3 + j) u = rfcs (xs.set k y) := by
  induction xs generalizing k with
  | nil => cases h
  | cons z t ih =>
    cases k with
    | zero =>
      injection h with h
      subst h
      show (rfc z ++ rfcs t).set _ _ = rfc y ++ rfcs t
      rw [Nat.zero_mul, Nat.zero_add, List.set_append_left _ _ (by show _ < 3; omega), hu]
    | succ k =>
      show (rfc z ++ rfcs t).set _ _ = rfc z ++ rfcs (t.set k y)
      rw [List.set_append_right _ _ (by show 3 ≤ _; omega), show (k + 1) * 3 + j - (rfc z).length = k * 3 + j from by show _ - 3 = _; omega, ih k h]
theorem rfcs_one (xs : List RF) : ∀ u ∈ rfcs xs, u.oneCell' = true := by
  intro u hu
  simp only [rfcs, List.mem_flatMap, rfc, List.mem_cons, List.not_mem_nil, or_false] at hu
  obtain ⟨x, _, rfl | rfl | rfl⟩ := hu <;> rfl

/-- bytes as the document's disk holds them: memory made behind base, never written again. -/
structure DOk (w : World) (base : Nat) (A : Option Addr) (c : Nat) (d : Bs) : Prop where
  rd : Rd w A (cb d)
  le : d.length ≤ c
  max : c ≤ maxLen
  nil : A = none → c = 0
  blk : 0 < d.length → ∀ k, ablk A k → base ≤ k ∧ ∃ cs, Bk w k 5 cs
theorem DOk.fr {C : Nat → Prop} {w w' : World} {base : Nat} {A : Option Addr} {c : Nat} {d : Bs} (h : DOk w base A c d) (hf : Fr C w w') (hn : 0 < d.length → ∀ k, ablk A k → ¬ C k) : DOk w' base A c d :=
  ⟨h.rd.fr' hf fun hp => hn (by rwa [cb_length] at hp), h.le, h.max, h.nil, fun hp k hk => ⟨(h.blk hp k hk).1, let ⟨cs, hb⟩ := (h.blk hp k hk).2; ⟨cs, hb.fr hf (hn hp k hk)⟩⟩⟩
theorem DOk.nofr {w w' : World} {base : Nat} {A : Option Addr} {c : Nat} {d : Bs} (h : DOk w base A c d) (hf : Fr NoBlk w w') : DOk w' base A c d := h.fr hf fun _ _ _ h => h
theorem DOk.ofOwn {w : World} {base n : Nat} {A : Option Addr} {c : Nat} {d : Bs} (h : w.ownsRow base 5 1 (.slice A n c) n (cb d)) (hn : n = d.length) : DOk w base A c d := by
  subst hn
  refine ⟨Rd.of_own h, ?_, ?_, ?_, fun hp k hk => ?_⟩
  · obtain ⟨A', c', e, h1, _⟩ := own_form h
    injection e with _ _ e
    subst e; exact h1
  · rcases h.2 with ⟨hv, _⟩ | ⟨g, cap, cur, hv, _, _, _, hm, _⟩
    · injection hv with _ _ e
      subst e; exact Nat.zero_le _
    · injection hv with _ _ e
      subst e; exact hm
  · obtain ⟨A', c', e, _, h1⟩ := own_form h
    injection e with e1 _ e
    subst e e1; exact h1
  · rcases h.2 with ⟨hv, _⟩ | ⟨g, cap, cur, hv, hb, hg, _⟩
    · injection hv with e1 _ e
      subst e1
      obtain ⟨_, e, _⟩ := hk
      cases e
    · injection hv with e1 _ e
      subst e1
      obtain ⟨_, e, rfl⟩ := hk
      injection e with e
      subst e
      exact ⟨hb, cur, hg⟩
theorem DOk.cut {w : World} {base : Nat} {A : Option Addr} {c : Nat} {d : Bs} (h : DOk w base A c d) (n : Nat) : DOk w base A c (d.take n) :=
  ⟨by rw [cb_take]; exact h.rd.take n, by rw [List.length_take]; have := h.le; omega, h.max, h.nil, fun hp => h.blk (by rw [List.length_take] at hp; omega)⟩
theorem DOk.empty (w : World) (base : Nat) : DOk w base none 0 [] := ⟨Rd.none_ _ _, Nat.le_refl _, Nat.zero_le _, fun _ => rfl, fun h => absurd h (by simp)⟩

structure RIn (w : World) (base : Nat) (m : RM) : Prop where
  bk : Bk w m.g 52 m.cells
  gb : base ≤ m.g
  row : w.ownsRow base 54 3 (.slice m.FA m.fs.length m.FC) m.fs.length (rfcs m.fs)
  dat : ∀ f ∈ m.fs, DOk w base f.A f.c f.pf.data
/-- the blocks that a call of the document's may turn. -/
def RM.own (m : RM) (k : Nat) : Prop := k = m.g ∨ ablk m.FA k
def RM.blk (m : RM) (k : Nat) : Prop := m.own k ∨ ∃ f ∈ m.fs, 0 < f.pf.data.length ∧ ablk f.A k
section
variable {C : Nat → Prop} {w w' : World} {base : Nat} {m m' m'' : RM}
theorem own_abl {base : Nat} {e : TypeId} {size n c : Nat} {A : Option Addr} {xs : List Value} (h : w.ownsRow base e size (.slice A n c) n xs) {k : Nat} (hk : ablk A k) : base ≤ k ∧ ∃ cs, Bk w k e cs := by
  rcases h.2 with ⟨hv, _⟩ | ⟨g, cap, cur, hv, hb, hg, _⟩
  · injection hv with e1 _ e
    subst e1
    obtain ⟨_, e, _⟩ := hk
    cases e
  · injection hv with e1 _ e
    subst e1
    obtain ⟨_, e, rfl⟩ := hk
    injection e with e
    subst e
    exact ⟨hb, cur, hg⟩
theorem RIn.own (h : RIn w base m) {k : Nat} (hk : m.own k) : base ≤ k ∧ k < w.heap.size := by
  rcases hk with rfl | hk
  · exact ⟨h.gb, h.bk.lt⟩
  · obtain ⟨h1, cs, h2⟩ := own_abl h.row hk
    exact ⟨h1, h2.lt⟩
theorem RIn.blk (h : RIn w base m) {k : Nat} (hk : m.blk k) : base ≤ k ∧ k < w.heap.size := by
  rcases hk with hk | ⟨f, hf, hp, hk⟩
  · exact h.own hk
  · obtain ⟨h1, cs, h2⟩ := (h.dat f hf).blk hp k hk
    exact ⟨h1, h2.lt⟩
theorem RIn.fr (h : RIn w base m) (hf : Fr C w w') (hn : ∀ k, m.blk k → ¬ C k) : RIn w' base m :=
  ⟨h.bk.fr hf (hn _ (.inl (.inl rfl))), h.gb, own_fr h.row hf fun k hk => hn k (.inl (.inr (by
    cases hA : m.FA with
    | none => rw [hA] at hk; cases hk
    | some a => rw [hA] at hk; injection hk with hk; exact ⟨a, rfl, hk⟩))), fun f hff => (h.dat f hff).fr hf fun hp k hk => hn k (.inr ⟨f, hff, hp, hk⟩)⟩
theorem RIn.nofr (h : RIn w base m) (hf : Fr NoBlk w w') : RIn w' base m := h.fr hf fun _ _ h => h
/-- what a file's bytes lie in isn't what a call may turn. -/
theorem RIn.apart (h : RIn w base m) {A : Option Addr} {c : Nat} {d : Bs} (hd : DOk w base A c d) : 0 < d.length → ∀ k, ablk A k → ¬ m.own k := by
  intro hp k hk ho
  obtain ⟨_, cs, hb⟩ := hd.blk hp k hk
  rcases ho with rfl | ho
  · exact Bk.apart hb h.bk (by decide) rfl
  · obtain ⟨_, cs', hb'⟩ := own_abl h.row ho
    exact Bk.apart hb hb' (by decide) rfl
theorem RIn.file (h : RIn w base m) {k : Nat} {f : RF} (hx : m.fs[k]? = some f) :
    ∃ b, m.FA = some ⟨b, 0, none⟩ ∧ b ≠ m.g ∧ w.cell? ⟨b, k * 3, none⟩ = some (.string (bstr f.pf.name)) ∧ w.cell? ⟨b, k * 3 + 1, none⟩ = some (.slice f.A f.pf.data.length f.c) ∧ w.cell? ⟨b, k * 3 + 2, none⟩ = some (.int .i64 f.pf.last) ∧ (∀ i, w.frozen? ⟨b, i, none⟩ = false) := by
  have hk := (List.getElem?_eq_some_iff.1 hx).1
  rcases h.row.2 with ⟨hv, hn⟩ | ⟨b, cap, cur, hv, _, hh, hnc, _, hcs, htake⟩
  · omega
  · have hA : m.FA = some ⟨b, 0, none⟩ := by injection hv
    have key : ∀ j, j < 3 → w.cell? ⟨b, k * 3 + j, none⟩ = (rfc f)[j]? := fun j hj => by
      rw [cell_of_row w b _ cur _ (0, 0) hh, ← rfcs_get m.fs k f hx j hj, ← htake, List.getElem?_take]
      rw [if_pos (by omega)]
      simp
    refine ⟨b, hA, fun e => ?_, key 0 (by omega), key 1 (by omega), key 2 (by omega), fun i => Bk.free (t := 54) (cs := cur) hh i⟩
    exact Bk.apart (t := 54) (cs := cur) hh h.bk (by decide) e
theorem RIn.cell (h : RIn w base m) : w.cell? ⟨m.g, 0, none⟩ = some (.int .i64 m.room) ∧ w.cell? ⟨m.g, 1, none⟩ = some (.slice m.FA m.fs.length m.FC) ∧ w.cell? ⟨m.g, 2, none⟩ = some (.int .i64 m.left) ∧ w.cell? ⟨m.g, 3, none⟩ = some (.bool m.down) :=
  ⟨h.bk.cell 0, h.bk.cell 1, h.bk.cell 2, h.bk.cell 3⟩
/-- what a call of the document's leaves. -/
structure RPost (w w' : World) (base : Nat) (m m' : RM) : Prop where
  rin : RIn w' base m'
  g : m'.g = m.g
  fr : Fr m.own w w'
  own : ∀ k, m'.own k → m.own k ∨ w.heap.size ≤ k
  blk : ∀ k, m'.blk k → m.blk k ∨ w.heap.size ≤ k
theorem RPost.refl (h : RIn w base m) : RPost w w base m m := ⟨h, rfl, Fr.refl _ _, fun _ => .inl, fun _ => .inl⟩
theorem RPost.trans {w'' : World} (h : RPost w w' base m m') (h2 : RPost w' w'' base m' m'') : RPost w w'' base m m'' :=
  ⟨h2.rin, h2.g.trans h.g, h.fr.step h2.fr fun k hk hc => (h.own k hc).elim id fun h => by omega, fun k hk => (h2.own k hk).elim (h.own k) fun h3 => .inr (by have := h.fr.size; omega), fun k hk => (h2.blk k hk).elim (h.blk k) fun h3 => .inr (by have := h.fr.size; omega)⟩
theorem RPost.more {w'' : World} (h : RPost w w' base m m') (hf : Fr NoBlk w' w'') : RPost w w'' base m m' :=
  ⟨h.rin.nofr hf, h.g, h.fr.trans (hf.mono fun _ _ h => h.elim), h.own, h.blk⟩
/-- the disk beside it stays. -/
theorem AtS.ref {v : World} {gd : Nat} {p : PD} (h : AtS v w gd p m.blk) (hr : RIn w v.heap.size m) (hp : RPost w w' v.heap.size m m') : AtS v w' gd p m'.blk :=
  h.prot hp.fr (fun _ _ hc => ⟨.inl hc, (hr.own hc).1⟩) hp.blk
/-- the box's cells turn, the files stay. -/
theorem RIn.box (h : RIn w base m) (hf : Fr (fun k => k = m.g) w w') (hb : Bk w' m.g 52 m'.cells) (h1 : m'.g = m.g) (h2 : m'.FA = m.FA) (h3 : m'.FC = m.FC) (h4 : m'.fs = m.fs) : RPost w w' base m m' := by
  have e : m'.own = m.own := by unfold RM.own; rw [h1, h2]
  have e2 : m'.blk = m.blk := by unfold RM.blk; rw [e, h4]
  refine ⟨⟨by rw [h1]; exact hb, by rw [h1]; exact h.gb, ?_, ?_⟩, h1, hf.mono fun k _ hk => .inl hk, fun k hk => .inl (e ▸ hk), fun k hk => .inl (e2 ▸ hk)⟩
  · rw [h2, h3, h4]
    exact own_fr h.row hf fun k hk => fun e => own_apart h.row h.bk (by decide) (e ▸ hk)
  · rw [h4]
    exact fun f hff => (h.dat f hff).fr hf fun hp k hk e => h.apart (h.dat f hff) hp k hk (.inl e)
/-- a file's place. -/
def PIdx (L : List PF) (k : Bs) (z : Int) : Prop := (z = -1 ∧ pfind L k = none) ∨ ∃ (j : Nat) (f : PF), z = j ∧ L[j]? = some f ∧ f.name = k ∧ pfind L k = some f
theorem pfind_at : ∀ (L : List PF) (k : Bs) (j : Nat) (f : PF), L[j]? = some f → f.name = k → (∀ i g, i < j → L[i]? = some g → (g.name == k) = false) → pfind L k = some f
  | [], _, _, _, h, _, _ => by cases h
  | g :: t, k, 0, f, h, e, _ => by
    injection h with h
    subst h
    unfold pfind
    rw [if_pos e]
  | g :: t, k, j + 1, f, h, e, hb => by
    have h0 := hb 0 g (by omega) rfl
    unfold pfind
    rw [if_neg (by simpa using h0)]
    exact pfind_at t k j f h e fun i g' hi hg => hb (i + 1) g' (by omega) hg
theorem pfind_no : ∀ (L : List PF) (k : Bs), (∀ (i : Nat) g, L[i]? = some g → (g.name == k) = false) → pfind L k = none
  | [], _, _ => rfl
  | g :: t, k, h => by
    have h0 := h 0 g rfl
    unfold pfind
    rw [if_neg (by simpa using h0)]
    exact pfind_no t k fun i g' hg => h (i + 1) g' hg
end

set_option maxRecDepth 100000 in
theorem rat_any (w : World) (base : Nat) (m : RM) (h : RIn w base m) (key : Bs) (hl : m.fs.length ≤ 1000) :
    Calls Tryd.prog 67 #[.pointer (some ⟨m.g, 0, none⟩), .string (bstr key)] w fun e w' => (∃ z, e = .returned (.int .i64 z) ∧ PIdx m.pfs key z) ∧ w = w' := by
  obtain ⟨_, c1, _, _⟩ := h.cell
  have HR := Lib.hid h
  have hgl := h.bk.lt
  clear h
  go_enter Tryd.func67, Tryd.ntmps67
  go_wp2_with fail
  go_loop [5] (fun z => ∃ k : Nat, k ≤ m.fs.length ∧ z = .int .i64 k ∧ Hid (∀ (i : Nat) (g : PF), i < k → m.pfs[i]? = some g → (g.name == key) = false)) (fun z => m.fs.length - (intOf z).toNat)
  case atStart => exact ⟨0, by omega, rfl, (fun i g h1 => absurd h1 (by omega))⟩
  case round =>
    obtain ⟨k, hk, rfl, HL⟩ := hrel
    by_cases hlt : k < m.fs.length
    · obtain ⟨f, hf⟩ : ∃ f, m.fs[k]? = some f := ⟨_, List.getElem?_eq_getElem hlt⟩
      obtain ⟨b, hA, hne, q0, q1, q2, hfz⟩ := HR.out.file hf
      have HPF : Hid (m.pfs[k]? = some f.pf) := by show (m.fs.map RF.pf)[k]? = _; rw [List.getElem?_map, hf]; rfl
      rw [hA] at c1
      have e3 := bstr_toList key
      have e4 := bstr_toList f.pf.name
      clear hf hA hne q1 q2 hfz
      cases hb : f.pf.name == key
      · have HY : Hid (∀ (i : Nat) (g : PF), i < k + 1 → m.pfs[i]? = some g → (g.name == key) = false) := by
          intro i g h1 h2
          by_cases e : i = k
          · subst e
            rw [HPF.out] at h2
            injection h2 with h2
            subst h2
            exact hb
          · exact HL.out i g (by omega) h2
        generalize f.pf.name = y at *
        go_wp2_with fail
        go_round
        case rel => exact ⟨k + 1, by omega, by go_num, HY⟩
        case measure => simp [intOf]; omega
      · have HZ : Hid (PIdx m.pfs key k) := .inr ⟨k, f.pf, rfl, HPF.out, by simpa using hb, pfind_at _ _ k f.pf HPF.out (by simpa using hb) HL.out⟩
        generalize f.pf.name = y at *
        go_wp2_with fail
        go_ret
        exact ⟨⟨_, rfl, HZ.out⟩, rfl⟩
    · have HZ : Hid (PIdx m.pfs key (-1)) := .inl ⟨rfl, pfind_no _ _ fun i g hg => HL.out i g (by have := (List.getElem?_eq_some_iff.1 hg).1; rw [List.length_map] at this; omega) hg⟩
      go_wp2_with fail
      go_ret
      exact ⟨⟨_, rfl, HZ.out⟩, rfl⟩

def psum : List RF → Nat
  | [] => 0
  | f :: t => f.pf.data.length + psum t
theorem psum_total (L : List RF) : psum L = ptotal (L.map RF.pf) := by
  induction L with
  | nil => rfl
  | cons f t ih => show _ + psum t = _ + ptotal _; rw [ih]
theorem psum_step (L : List RF) (k : Nat) (f : RF) (h : L[k]? = some f) : psum (L.take (k + 1)) = psum (L.take k) + f.pf.data.length := by
  induction L generalizing k with
  | nil => cases h
  | cons g t ih =>
    cases k with
    | zero => injection h with h; subst h; simp [psum]
    | succ k =>
      show g.pf.data.length + psum (t.take (k + 1)) = g.pf.data.length + psum (t.take k) + _
      rw [ih k h]; omega
theorem psum_take (L : List RF) (k : Nat) : psum (L.take k) ≤ psum L := by
  induction L generalizing k with
  | nil => simp [psum]
  | cons g t ih =>
    cases k with
    | zero => simp [psum]
    | succ k =>
      show g.pf.data.length + psum (t.take k) ≤ g.pf.data.length + psum t
      have := ih k; omega
set_option maxRecDepth 100000 in
theorem rused_any (w : World) (base : Nat) (m : RM) (h : RIn w base m) (hl : m.fs.length ≤ 1000) (ht : ptotal m.pfs ≤ 1048576) :
    Calls Tryd.prog 68 #[.pointer (some ⟨m.g, 0, none⟩)] w fun e w' => e = .returned (.int .i64 (ptotal m.pfs)) ∧ w = w' := by
  obtain ⟨_, c1, _, _⟩ := h.cell
  have HR := Lib.hid h
  have hgl := h.bk.lt
  have HTOT := Lib.hid (psum_total m.fs)
  rw [← HTOT.out] at ht ⊢
  clear h
  go_enter Tryd.func68, Tryd.ntmps68
  go_wp2_with fail
  go_loop [3, 4] (fun s z => ∃ k : Nat, k ≤ m.fs.length ∧ z = .int .i64 k ∧ s = .int .i64 (psum (m.fs.take k) : Nat)) (fun _ z => m.fs.length - (intOf z).toNat)
  case atStart => exact ⟨0, by omega, rfl, by simp [psum]⟩
  case round =>
    obtain ⟨k, hk, rfl, rfl⟩ := hrel
    by_cases hlt : k < m.fs.length
    · obtain ⟨f, hf⟩ : ∃ f, m.fs[k]? = some f := ⟨_, List.getElem?_eq_getElem hlt⟩
      obtain ⟨b, hA, hne, q0, q1, q2, hfz⟩ := HR.out.file hf
      rw [hA] at c1
      have HS := Lib.hid (psum_step m.fs k f hf)
      have hle := psum_take m.fs (k + 1)
      rw [HS.out] at hle
      generalize psum (m.fs.take k) = s at *
      generalize f.pf.data.length = dn at *
      clear hf hA hne q0 q2 hfz
      go_wp2_with fail
      go_round
      case rel => exact ⟨k + 1, by omega, by go_num, by rw [HS.out]; go_num⟩
      case measure => simp [intOf]; omega
    · obtain rfl : k = m.fs.length := by omega
      rw [List.take_length]
      go_wp2_with fail
      go_ret
      exact ⟨rfl, rfl⟩

def rspend (m : RM) : RM := if m.left = 0 then { m with down := true } else if 0 < m.left then { m with left := m.left - 1 } else m
theorem rspend_pd (m : RM) : (rspend m).pd = pspend m.pd := by
  unfold rspend pspend
  show _ = if m.left = 0 then _ else if 0 < m.left then _ else _
  split
  · rfl
  · split <;> rfl
theorem rspend_fs (m : RM) : (rspend m).fs = m.fs ∧ (rspend m).g = m.g ∧ (rspend m).FA = m.FA ∧ (rspend m).FC = m.FC ∧ (rspend m).room = m.room := by
  unfold rspend
  split
  · exact ⟨rfl, rfl, rfl, rfl, rfl⟩
  · split <;> exact ⟨rfl, rfl, rfl, rfl, rfl⟩
set_option maxRecDepth 100000 in
theorem ruse_any (w : World) (base : Nat) (m : RM) (h : RIn w base m) (hl : -9223372036854775808 ≤ m.left ∧ m.left ≤ 9223372036854775807) :
    Calls Tryd.prog 65 #[.pointer (some ⟨m.g, 0, none⟩)] w fun e w' => e = .returned (.bool (!decide (m.left = 0))) ∧ RPost w w' base m (rspend m) := by
  obtain ⟨_, _, c2, _⟩ := h.cell
  have HR := Lib.hid h
  have hgl := h.bk.lt
  have hz2 := h.bk.free 2
  have hz3 := h.bk.free 3
  obtain ⟨q, hq⟩ : ∃ q, q = rspend m := ⟨_, rfl⟩
  have HQ := Lib.hid hq
  rw [← hq]
  clear h hq
  unfold rspend at HQ
  by_cases h0 : m.left = 0
  · have HP := HR.out.bk.put 3 (.bool true)
    have HF := Lib.hid ((Fr.refl (fun k => k = m.g) w).setCell (p := ⟨m.g, 3, none⟩) (fun _ => rfl) (.bool true))
    have HQ2 := HQ.out
    rw [if_pos h0] at HQ2
    subst HQ2
    have HZ := Lib.hid (HR.out.box HF.out (m' := { m with down := true }) HP rfl rfl rfl rfl)
    have c2' : w.cell? ⟨m.g, 2, none⟩ = some (.int .i64 0) := by rw [c2, h0]
    have e0 : decide (m.left = 0) = true := decide_eq_true h0
    rw [e0]
    clear HP HF HQ c2 h0 e0 hl
    go_enter Tryd.func65, Tryd.ntmps65
    go_wp2_with fail
    go_ret
    exact ⟨rfl, HZ.out⟩
  · have HQ2 := HQ.out
    rw [if_neg h0] at HQ2
    clear HQ
    have e0 : decide (m.left = 0) = false := decide_eq_false h0
    rw [e0]
    by_cases h1 : 0 < m.left
    · rw [if_pos h1] at HQ2
      subst HQ2
      have HP := HR.out.bk.put 2 (.int .i64 (m.left - 1))
      have HF := Lib.hid ((Fr.refl (fun k => k = m.g) w).setCell (p := ⟨m.g, 2, none⟩) (fun _ => rfl) (.int .i64 (m.left - 1)))
      have HZ := Lib.hid (HR.out.box HF.out (m' := { m with left := m.left - 1 }) HP rfl rfl rfl rfl)
      have ew : IntKind.i64.wrap (m.left - 1) = m.left - 1 := IntWalk.i64_in _ (by omega)
      clear HP HF e0
      go_enter Tryd.func65, Tryd.ntmps65
      go_wp2_with fail
      go_ret
      exact ⟨rfl, HZ.out⟩
    · rw [if_neg h1] at HQ2
      subst HQ2
      have HZ := Lib.hid (RPost.refl HR.out)
      clear e0
      go_enter Tryd.func65, Tryd.ntmps65
      go_wp2_with fail
      go_ret
      exact ⟨rfl, HZ.out⟩

set_option maxRecDepth 100000 in
theorem rfind_any (w : World) (base : Nat) (m : RM) (h : RIn w base m) (key : Bs) (hl : m.fs.length ≤ 1000) :
    Calls Tryd.prog 64 #[.pointer (some ⟨m.g, 0, none⟩), .string (bstr key)] w fun e w' =>
      (if m.down then e = .returned (.tuple #[.int .i64 (-1), .int .i64 3]) else (pfind m.pfs key = none ∧ e = .returned (.tuple #[.int .i64 (-1), .int .i64 60])) ∨ ∃ (j : Nat) (f : RF), m.fs[j]? = some f ∧ f.pf.name = key ∧ pfind m.pfs key = some f.pf ∧ e = .returned (.tuple #[.int .i64 j, .int .i64 0])) ∧ w = w' := by
  obtain ⟨_, _, _, c3⟩ := h.cell
  have HAT := Lib.hid (rat_any w base m h key hl)
  have hgl := h.bk.lt
  clear h
  cases hd : m.down
  · rw [hd] at c3
    go_enter Tryd.func64, Tryd.ntmps64
    go_wp2_with fail
    refine HAT.out.mono ?_
    clear HAT
    rintro e w1 ⟨⟨z, rfl, hz⟩, rfl⟩
    rcases hz with ⟨rfl, hn⟩ | ⟨j, f, rfl, hj, hk, hf⟩
    · have HN := Lib.hid hn
      clear hn
      go_wp2_with fail
      go_ret2
      exact ⟨.inl ⟨HN.out, rfl⟩, rfl⟩
    · have HZ : Hid (∃ (j' : Nat) (f : RF), m.fs[j']? = some f ∧ f.pf.name = key ∧ pfind m.pfs key = some f.pf ∧ j' = j) := by
        have hj2 : (m.fs.map RF.pf)[j]? = some f := hj
        rw [List.getElem?_map] at hj2
        cases hg : m.fs[j]? with
        | none => rw [hg] at hj2; cases hj2
        | some g =>
          rw [hg] at hj2
          injection hj2 with hj2
          exact ⟨j, g, hg, by rw [hj2]; exact hk, by rw [hj2]; exact hf, rfl⟩
      have hjl : j < m.fs.length := by have := (List.getElem?_eq_some_iff.1 hj).1; rwa [List.length_map] at this
      clear hj hk hf
      go_wp2_with fail
      go_ret2
      obtain ⟨j', f', h1, h2, h3, rfl⟩ := HZ.out
      exact ⟨.inr ⟨j', f', h1, h2, h3, rfl⟩, rfl⟩
  · rw [hd] at c3
    clear HAT
    go_enter Tryd.func64, Tryd.ntmps64
    go_wp2_with fail
    go_ret2
    exact ⟨rfl, rfl⟩

set_option maxRecDepth 100000 in
theorem rlimit_any (w : World) (base : Nat) (m : RM) (h : RIn w base m) (z : Int) :
    Calls Tryd.prog 19 #[.pointer (some ⟨m.g, 0, none⟩), .int .i64 z] w fun e w' => e = .returned (.tuple #[]) ∧ RPost w w' base m { m with left := if z < 0 then -1 else z } := by
  have HR := Lib.hid h
  have hgl := h.bk.lt
  have hz2 := h.bk.free 2
  have hfz2 := (h.bk.put 2 (.int .i64 z)).free 2
  obtain ⟨_, _, c2, _⟩ := h.cell
  have c2' : (w.setCell ⟨m.g, 2, none⟩ (.int .i64 z)).cell? ⟨m.g, 2, none⟩ = some (.int .i64 z) := (h.bk.put 2 (.int .i64 z)).cell 2
  clear h
  by_cases hz : z < 0
  · have HP := (HR.out.bk.put 2 (.int .i64 z)).put 2 (.int .i64 (-1))
    have HF := Lib.hid (((Fr.refl (fun k => k = m.g) w).setCell (p := ⟨m.g, 2, none⟩) (fun _ => rfl) (.int .i64 z)).setCell (p := ⟨m.g, 2, none⟩) (fun _ => rfl) (.int .i64 (-1)))
    have HZ := Lib.hid (HR.out.box HF.out (m' := { m with left := -1 }) HP rfl rfl rfl rfl)
    rw [if_pos hz]
    clear HP HF
    go_enter Tryd.func19, Tryd.ntmps19
    go_wp2_with fail
    go_end0
    exact ⟨rfl, HZ.out⟩
  · have HP := HR.out.bk.put 2 (.int .i64 z)
    have HF := Lib.hid ((Fr.refl (fun k => k = m.g) w).setCell (p := ⟨m.g, 2, none⟩) (fun _ => rfl) (.int .i64 z))
    have HZ := Lib.hid (HR.out.box HF.out (m' := { m with left := z }) HP rfl rfl rfl rfl)
    rw [if_neg hz]
    clear HP HF
    go_enter Tryd.func19, Tryd.ntmps19
    go_wp2_with fail
    go_end0
    exact ⟨rfl, HZ.out⟩

def rnew (g room : Nat) : RM := ⟨g, room, -1, false, none, 0, []⟩
theorem RIn.new {w w' : World} {g room : Nat} (hb : Bk w' g 52 (rnew g room).cells) (hg : w.heap.size ≤ g) : RIn w' w.heap.size (rnew g room) :=
  ⟨hb, hg, World.ownsRow_nil _ _ _ _, fun _ h => by cases h⟩
set_option maxRecDepth 100000 in
theorem rnew_any (w : World) (room : Nat) :
    Calls Tryd.prog 15 #[.int .i64 room] w fun e w' => e = .returned (.pointer (some ⟨w.heap.size, 0, none⟩)) ∧ RIn w' w.heap.size (rnew w.heap.size room) ∧ Fr NoBlk w w' := by
  have HZ : Hid (RIn (w.alloc (.cells (rnew w.heap.size room).cells 52)) w.heap.size (rnew w.heap.size room)) := RIn.new (Bk.new _ _ _) (Nat.le_refl _)
  have HF : Hid (Fr NoBlk w (w.alloc (.cells (rnew w.heap.size room).cells 52))) := (Fr.refl _ _).alloc _
  go_enter Tryd.func15, Tryd.ntmps15
  go_wp2_with fail
  go_ret
  exact ⟨rfl, HZ.out, HF.out⟩
end Go.Proofs.YtokonhcphhpogaaDoor

namespace Go.Proofs.YtokonhcphhpogaaDoor
open Go.RowKit

/- append to a row of the call's own, elements of several cells, the source read as a list. -/
theorem wpList_appO {P : Program} {w : World} {ops : Array Oper} {rest : List Oper} {o : Oper} {a : Act} {Q : Exit → Act → World → Prop} (hgd : o.guard = none) (s x : Operand) (t : TypeId)
    (ho : o.op = .call { callee := .builtin .append, args := #[s, x], argTypes := #[t, t] })
    (base : Nat) (e : TypeId) (i : TypeInfo) (z : Value) (size bytes : Nat) (ht : P.underlying t = some (.slice e)) (hi : P.info? e = some i) (hz : i.zero = some z)
    (hsize : i.size = size) (hby : i.bytes = bytes) (hzs : z.cells.size = size) (hpos : 0 < size)
    (v : Value) (n : Nat) (xs : List Value) (hs : a.eval s = v) (hown : w.ownsRow base e size v n xs)
    (ad : Addr) (c m : Nat) (news : List Value) (hx : a.eval x = .slice (some ad) m c) (hm : news.length = m * size) (hr : Rd w (some ad) news) (h1 : ∀ u ∈ news, u.oneCell' = true)
    (h63 : n + m ≤ maxLen) (hbytes : (n + m) * bytes ≤ 140737488355328) (hbase : base ≤ w.heap.size)
    (h : ∀ v' w', w'.ownsRow base e size v' (n + m) (xs ++ news) → w.grownBy w' v.ownBlock → (v'.ownBlock = v.ownBlock ∨ v'.ownBlock = some w.heap.size) →
      wpList P ops Q rest (a.put o.dst v') w') : wpList P ops Q (o :: rest) a w :=
  wpList_plain hgd fun K hK => by
    obtain ⟨v', w', hrun, h2, h3, _, h5⟩ := run_append_own_at (P := P) w base t o.type e i z size bytes ht hi hz hsize hby hzs hpos v n xs hown ad m c news hm
      (fun j u hu => by
        obtain ⟨b, o, e', hc⟩ := hr (by have := (List.getElem?_eq_some_iff.1 hu).1; omega)
        injection e' with e'
        subst e'
        have := hc j u hu
        unfold Addr.add
        split
        · subst j; simpa using this
        · exact this) h1 h63 hbytes hbase
    unfold Oper.wp execOp
    simp only [ho, resolve, invoke, builtin, Sem.run_bind, Sem.run_pure, Result.andThen_ok, List.map_toArray, List.map_cons, List.map_nil, hs, hx, hrun]
    exact hK _ _ (h v' w' h2 h3 h5)

theorem fileInfo : (Tryd.prog.info? 54).map (fun i => (i.zero, i.size, i.bytes)) = some (some (.agg #[.string ByteArray.empty, .slice none 0 0, .int .i64 0]), 3, 48) := by kernel_rfl
/-- files gathered in memory of the call's own. -/
structure Outs (w1 wr : World) (v : Value) (os : List RF) : Prop where
  fr : Fr NoBlk w1 wr
  own : wr.ownsRow w1.heap.size 54 3 v os.length (rfcs os)
theorem Outs.new (w1 : World) {g : Nat} (hg : g = w1.heap.size) : Outs w1 (w1.alloc (.cells #[] 54)) (.slice (some ⟨g, 0, none⟩) 0 0) [] := by
  subst hg
  exact ⟨(Fr.refl _ _).alloc _, own_base (World.ownsRow_made w1 #[] 0 (Nat.le_refl _) (by decide) rfl) (Nat.le_refl _)⟩
theorem Outs.nofr {w1 wr wa : World} {v : Value} {os : List RF} (h : Outs w1 wr v os) (hf : Fr NoBlk wr wa) : Outs w1 wa v os := ⟨h.fr.trans hf, own_fr h.own hf fun _ _ h => h⟩
theorem Outs.next {w1 wr wa w8 : World} {v v8 : Value} {os : List RF} (h : Outs w1 wr v os) (x : RF) (hf : Fr NoBlk wr wa) (ho : w8.ownsRow w1.heap.size 54 3 v8 (os.length + 1) (rfcs os ++ rfc x)) (hg : wa.grownBy w8 v.ownBlock) : Outs w1 w8 v8 (os ++ [x]) := by
  refine ⟨(h.fr.trans hf).grown hg fun k hk hlt => ?_, ?_⟩
  · exact absurd (own_lt h.own hk).1 (by omega)
  · rw [List.length_append, rfcs_append]
    show World.ownsRow _ _ _ _ _ _ (rfcs os ++ (rfc x ++ []))
    rw [List.append_nil]
    exact ho
/-- the disk's files lie in a new row. -/
def RowPost (w w' : World) (base : Nat) (m : RM) (os : List RF) : Prop := ∃ A c, RIn w' base { m with FA := A, FC := c, fs := os } ∧ Fr m.own w w' ∧ ∀ k, ablk A k → w.heap.size ≤ k
theorem RowPost.of {w w1 wr : World} {base : Nat} {m : RM} (h : RIn w base m) (hw : Fr NoBlk w w1) {A : Option Addr} {c : Nat} {os : List RF} (ho : Outs w1 wr (.slice A os.length c) os) (hd : ∀ f ∈ os, DOk w base f.A f.c f.pf.data) (hb : base ≤ w.heap.size) :
    RowPost w (wr.setCell ⟨m.g, 1, none⟩ (.slice A os.length c)) base m os := by
  have hwr := hw.trans ho.fr
  have hbk := h.bk.fr hwr fun h => h
  have hf : Fr (fun k => k = m.g) wr (wr.setCell ⟨m.g, 1, none⟩ (.slice A os.length c)) := (Fr.refl (fun k => k = m.g) wr).setCell (p := ⟨m.g, 1, none⟩) (fun _ => rfl) _
  have hs := hw.size
  refine ⟨A, c, ⟨hbk.put 1 (.slice A os.length c), h.gb, own_base (own_fr ho.own hf fun k hk e => own_apart ho.own hbk (by decide) (e ▸ hk)) (by omega), fun f hff => ((hd f hff).nofr hwr).fr hf fun hp k hk e => ?_⟩, (hwr.mono fun _ _ h => h.elim).trans (hf.mono fun k _ hk => .inl hk), fun k hk => ?_⟩
  · exact h.apart (hd f hff) hp k hk (.inl e)
  · have := (own_abl ho.own hk).1
    omega
theorem RowPost.post {w w' : World} {base : Nat} {m : RM} {os : List RF} (h : RowPost w w' base m os) (hs : ∀ f ∈ os, 0 < f.pf.data.length → ∀ k, ablk f.A k → m.blk k ∨ w.heap.size ≤ k) :
    ∃ m', RPost w w' base m m' ∧ m'.fs = os ∧ m'.room = m.room ∧ m'.left = m.left ∧ m'.down = m.down := by
  obtain ⟨A, c, h1, h2, h3⟩ := h
  refine ⟨_, ⟨h1, rfl, h2, fun k hk => ?_, fun k hk => ?_⟩, rfl, rfl, rfl, rfl⟩
  · rcases hk with hk | hk
    · exact .inl (.inl hk)
    · exact .inr (h3 k hk)
  · rcases hk with (hk | hk) | ⟨f, hf, hp, hk⟩
    · exact .inl (.inl (.inl hk))
    · exact .inr (h3 k hk)
    · exact hs f hf hp k hk
def rins (x : RF) : List RF → List RF
  | [] => [x]
  | y :: r => if Op.bytesLess x.pf.name y.pf.name then x :: y :: r else y :: rins x r
theorem rins_pf (x : RF) (L : List RF) : (rins x L).map RF.pf = pins x.pf (L.map RF.pf) := by
  induction L with
  | nil => rfl
  | cons y r ih =>
    show (if _ then _ else _ : List RF).map RF.pf = if _ then _ else _
    split
    · rfl
    · show _ :: (rins x r).map RF.pf = _
      rw [ih]
theorem rins_mem {x y : RF} {L : List RF} (h : y ∈ rins x L) : y = x ∨ y ∈ L := by
  induction L with
  | nil => exact .inl (List.mem_singleton.1 h)
  | cons z r ih =>
    unfold rins at h
    split at h
    · exact List.mem_cons.1 h
    · rcases List.mem_cons.1 h with h | h
      · exact .inr (h ▸ List.mem_cons_self ..)
      · exact (ih h).imp id fun h => List.mem_cons_of_mem _ h
theorem rins_len (x : RF) (L : List RF) : (rins x L).length = L.length + 1 := by
  induction L with
  | nil => rfl
  | cons z r ih =>
    unfold rins
    split
    · rfl
    · show (rins x r).length + 1 = _
      rw [ih]; rfl
def rdel (L : List RF) (key : Bs) : List RF := L.filter fun f => !(f.pf.name == key)
theorem rdel_pf (L : List RF) (key : Bs) : (rdel L key).map RF.pf = pdel (L.map RF.pf) key := by
  unfold rdel pdel
  rw [List.filter_map]
  congr 1
  apply List.filter_congr
  intro x _
  show (!(x.pf.name == key)) = !decide (x.pf.name = key)
  congr 1
  exact Bool.eq_iff_iff.2 (by simp)
theorem drop_at {α : Type} (L : List α) (k : Nat) (x : α) (h : L[k]? = some x) : L.drop k = x :: L.drop (k + 1) := by
  obtain ⟨hl, he⟩ := List.getElem?_eq_some_iff.1 h
  rw [← he]
  exact List.drop_eq_getElem_cons hl

set_option maxRecDepth 100000 in
theorem rdrop_any (w : World) (base : Nat) (m : RM) (h : RIn w base m) (key : Bs) (hl : m.fs.length ≤ 1000) (hb : base ≤ w.heap.size) :
    Calls Tryd.prog 66 #[.pointer (some ⟨m.g, 0, none⟩), .string (bstr key)] w fun e w' => e = .returned (.tuple #[]) ∧ RowPost w w' base m (rdel m.fs key) := by
  obtain ⟨l0, hi, hz0, hz1, hz2⟩ := info_parts fileInfo
  have HR := Lib.hid h
  have HB := Lib.hid hb
  have HO0 := Lib.hid (Outs.new w rfl)
  clear h hb
  go_enter Tryd.func66, Tryd.ntmps66
  go_wp2_with fail
  go_loopw [4, 5] (fun v z wr => ∃ (k : Nat) (os : List RF), k ≤ m.fs.length ∧ z = .int .i64 k ∧ Hid (Outs w wr v os) ∧ Hid (os ++ rdel (m.fs.drop k) key = rdel m.fs key) ∧ os.length ≤ k) (fun _ z _ => m.fs.length - (intOf z).toNat)
  case atStart => exact ⟨0, [], by omega, rfl, HO0, rfl, by simp⟩
  case round =>
    clear HO0
    obtain ⟨k, os, hk, rfl, HO, HQ, hon⟩ := hrel
    have HRr := Lib.hid (HR.out.nofr HO.out.fr)
    obtain ⟨_, c1, _, _⟩ := HRr.out.cell
    have hgl := HRr.out.bk.lt
    have hg1 := HRr.out.bk.free 1
    by_cases hlt : k < m.fs.length
    · obtain ⟨f, hf⟩ : ∃ f, m.fs[k]? = some f := ⟨_, List.getElem?_eq_getElem hlt⟩
      obtain ⟨b, hA, hne, q0, q1, q2, hfz⟩ := HRr.out.file hf
      have HD := Lib.hid (drop_at _ k f hf)
      rw [hA] at c1
      have e3 := bstr_toList key
      have e4 := bstr_toList f.pf.name
      clear hf hA hne hfz
      obtain ⟨⟨nm, dt, la⟩, fa, fc⟩ := f
      dsimp only at q0 q1 q2 e4 HD
      cases hc : nm == key
      · have HY : Hid ((os ++ [⟨⟨nm, dt, la⟩, fa, fc⟩]) ++ rdel (m.fs.drop (k + 1)) key = rdel m.fs key) := by
          show _ = _
          rw [← HQ.out, HD.out]
          unfold rdel
          rw [List.filter_cons_of_pos (by simpa using hc), List.append_assoc]
          rfl
        have HF7 : Hid (Fr NoBlk wr (wr.alloc (.cells #[.string (bstr nm), .slice fa dt.length fc, .int .i64 la] 54))) := (Fr.refl _ _).alloc _
        have HO7 := Lib.hid (HO.out.nofr HF7.out)
        have HR7 : Hid (Rd (wr.alloc (.cells #[.string (bstr nm), .slice fa dt.length fc, .int .i64 la] 54)) (some ⟨wr.heap.size, 0, none⟩) (rfc ⟨⟨nm, dt, la⟩, fa, fc⟩)) := Rd.of_cells (Bk.new _ _ _)
        have HSZ : Hid (w.heap.size ≤ (wr.alloc (.cells #[.string (bstr nm), .slice fa dt.length fc, .int .i64 la] 54)).heap.size) := HO7.out.fr.size
        have HRf := Lib.hid (@id _ HR7.out)
        obtain ⟨dn, hdn⟩ : ∃ dn, dn = dt.length := ⟨_, rfl⟩
        have HDN := Lib.hid hdn
        go_wp2_with (at_builtin; refine wpList_appO rfl (.tmp 26) (.tmp 34) 50 rfl w.heap.size 54 l0 _ 3 48 Tryd.underlying50 hi hz0 hz1 hz2 rfl (by decide) _ os.length (rfcs os) rfl HO7.out.own ⟨wr.heap.size, 0, none⟩ 1 1 (rfc ⟨⟨nm, dt, la⟩, fa, fc⟩) rfl rfl HR7.out ?q1 ?q2 ?q3 HSZ.out ?_)
        case q1 => exact fun u hu => rfcs_one [⟨⟨nm, dt, la⟩, fa, fc⟩] u (by show u ∈ rfc _ ++ []; rw [List.append_nil]; exact hu)
        case q2 => unfold maxLen; omega
        case q3 => omega
        intro v8 w8 ho8 hg8 _
        have HO8 := Lib.hid (HO.out.next _ HF7.out ho8 hg8)
        clear ho8 hg8 HO7 HR7 HSZ HRf
        go_wp2_with fail
        go_roundw
        case rel => exact ⟨k + 1, _, by omega, by go_num, HO8, HY, by rw [List.length_append]; simp; omega⟩
        case measure => simp [intOf]; omega
      · have HY : Hid (os ++ rdel (m.fs.drop (k + 1)) key = rdel m.fs key) := by
          show _ = _
          rw [← HQ.out, HD.out]
          unfold rdel
          rw [List.filter_cons_of_neg (by simpa using hc)]
        go_wp2_with fail
        go_roundw
        case rel => exact ⟨k + 1, _, by omega, by go_num, HO, HY, by omega⟩
        case measure => simp [intOf]; omega
    · have HE : Hid (os = rdel m.fs key) := by
        show _ = _
        have := HQ.out
        rw [List.drop_eq_nil_of_le (by omega)] at this
        simpa [rdel] using this
      obtain ⟨A, c, rfl, _, _⟩ := own_form HO.out.own
      have HZ := Lib.hid (RowPost.of HR.out (Fr.refl _ _) HO.out (by rw [HE.out]; exact fun f hf => HR.out.dat f (List.mem_filter.1 hf).1) HB.out)
      go_wp2_with fail
      go_end0
      exact ⟨rfl, by rw [← HE.out]; exact HZ.out⟩
end Go.Proofs.YtokonhcphhpogaaDoor

namespace Go.Proofs.YtokonhcphhpogaaDoor
open Go.RowKit

theorem gt_less (a b : Bs) : (!Op.bytesLess a b && !a == b) = Op.bytesLess b a := by
  cases h : Op.bytesLess b a
  · cases h2 : Op.bytesLess a b
    · have := less_total h2 h
      subst this
      simp
    · rfl
  · have h1 := less_asymm h
    have h2 : (a == b) = false := by
      cases e : a == b
      · rfl
      · have e' : a = b := by simpa using e
        rw [e', less_irrefl] at h
        cases h
    rw [h1, h2]
    rfl
def rfv (f : RF) : Value := .agg #[st f.pf.name, .slice f.A f.pf.data.length f.c, .int .i64 f.pf.last]
set_option maxRecDepth 100000 in
set_option maxHeartbeats 4000000 in
theorem rput_any (w : World) (base : Nat) (m : RM) (h : RIn w base m) (x : RF) (hx : DOk w base x.A x.c x.pf.data) (hl : m.fs.length ≤ 1000) (hb : base ≤ w.heap.size) :
    Calls Tryd.prog 69 #[.pointer (some ⟨m.g, 0, none⟩), rfv x] w fun e w' => e = .returned (.tuple #[]) ∧ RowPost w w' base m (rins x m.fs) := by
  obtain ⟨l0, hi, hz0, hz1, hz2⟩ := info_parts fileInfo
  have HR := Lib.hid h
  have HB := Lib.hid hb
  have HXD := Lib.hid hx
  have hgw := h.bk.lt
  obtain ⟨⟨xn, xd, xl⟩, xa, xc⟩ := x
  obtain ⟨w1, hw1⟩ : ∃ w1, w1 = w.alloc (.cells #[.string (bstr xn), .slice xa xd.length xc, .int .i64 xl] 54) := ⟨_, rfl⟩
  have HF1 : Hid (Fr NoBlk w w1) := by show Fr _ _ _; rw [hw1]; exact (Fr.refl _ _).alloc _
  have HBX : Hid (Bk w1 w.heap.size 54 #[.string (bstr xn), .slice xa xd.length xc, .int .i64 xl]) := by show Bk _ _ _ _; rw [hw1]; exact Bk.new _ _ _
  have HS1 : Hid (w1.heap.size = w.heap.size + 1) := by show _ = _; rw [hw1]; simp
  have HO0 := Lib.hid (Outs.new w1 (g := w1.heap.size) rfl)
  have e3 := bstr_toList xn
  have HW1 := Lib.hid hw1
  clear h hb hx hw1
  unfold rfv st
  dsimp only
  go_enter Tryd.func69, Tryd.ntmps69
  go_wp2_with fail
  rw [← HW1.out]
  clear HW1
  have hs1 := HS1.out
  rw [← hs1]
  clear hs1
  go_wp2_with fail
  go_loopw [4, 5, 6] (fun v d z wr => ∃ (k : Nat) (os : List RF) (b : Bool), k ≤ m.fs.length ∧ z = .int .i64 k ∧ d = .bool b ∧ Hid (Outs w1 wr v os) ∧ Hid (os ++ (if b then m.fs.drop k else rins ⟨⟨xn, xd, xl⟩, xa, xc⟩ (m.fs.drop k)) = rins ⟨⟨xn, xd, xl⟩, xa, xc⟩ m.fs) ∧ os.length ≤ 2 * k + 1) (fun _ _ z _ => m.fs.length - (intOf z).toNat)
  case atStart => exact ⟨0, [], false, by omega, rfl, rfl, HO0, rfl, by simp⟩
  case round =>
    clear HO0
    obtain ⟨k, os, done, hk, rfl, rfl, HO, HQ, hon⟩ := hrel
    have HFw : Hid (Fr NoBlk w wr) := HF1.out.trans HO.out.fr
    have HRr := Lib.hid (HR.out.nofr HFw.out)
    obtain ⟨_, c1, _, _⟩ := HRr.out.cell
    have hgl := HRr.out.bk.lt
    have hg1 := HRr.out.bk.free 1
    have HBr : Hid (Bk wr w.heap.size 54 #[.string (bstr xn), .slice xa xd.length xc, .int .i64 xl]) := HBX.out.fr HO.out.fr fun h => h
    have hwl : w.heap.size < wr.heap.size := HBr.out.lt
    have x0 : wr.cell? ⟨w.heap.size, 0, none⟩ = some (.string (bstr xn)) := HBr.out.cell 0
    have x1 : wr.cell? ⟨w.heap.size, 1, none⟩ = some (.slice xa xd.length xc) := HBr.out.cell 1
    have x2 : wr.cell? ⟨w.heap.size, 2, none⟩ = some (.int .i64 xl) := HBr.out.cell 2
    have i0' : (0 : Int) ≤ (k : Int) := by omega
    by_cases hlt : k < m.fs.length
    · obtain ⟨f, hf⟩ : ∃ f, m.fs[k]? = some f := ⟨_, List.getElem?_eq_getElem hlt⟩
      obtain ⟨b, hA, hne, q0, q1, q2, hfz⟩ := HRr.out.file hf
      have HD := Lib.hid (drop_at _ k f hf)
      rw [hA] at c1
      have i1' : (k : Int) < (m.fs.length : Int) := by omega
      have e4 := bstr_toList f.pf.name
      clear hf hA hne hfz
      obtain ⟨⟨nm, dt, la⟩, fa, fc⟩ := f
      dsimp only at q0 q1 q2 e4 HD
      cases done
      · have e5 := gt_less nm xn
        cases hc : Op.bytesLess xn nm
        · rw [hc] at e5
          have HY : Hid ((os ++ [⟨⟨nm, dt, la⟩, fa, fc⟩]) ++ (if false then m.fs.drop (k + 1) else rins ⟨⟨xn, xd, xl⟩, xa, xc⟩ (m.fs.drop (k + 1))) = rins ⟨⟨xn, xd, xl⟩, xa, xc⟩ m.fs) := by
            show _ = _
            rw [← HQ.out, HD.out, List.append_assoc]
            show _ = os ++ (if Op.bytesLess xn nm = true then _ else _)
            rw [hc]
            rfl
          go_wp2_with fail
          go_quiet (fail)
          have HFq : Hid (Fr NoBlk wr (wr.drewN nq)) := (Fr.refl _ _).drewN nq
          have y1 : (wr.drewN nq).cell? ⟨m.g, 1, none⟩ = some (.slice (some ⟨b, 0, none⟩) m.fs.length m.FC) := c1
          have z0 : (wr.drewN nq).cell? ⟨b, k * 3, none⟩ = some (.string (bstr nm)) := q0
          have z1 : (wr.drewN nq).cell? ⟨b, k * 3 + 1, none⟩ = some (.slice fa dt.length fc) := q1
          have z2 : (wr.drewN nq).cell? ⟨b, k * 3 + 2, none⟩ = some (.int .i64 la) := q2
          have hql : m.g < (wr.drewN nq).heap.size := hgl
          clear c1 q0 q1 q2 x0 x1 x2
          generalize wr.drewN nq = wq at *
          have HF7 : Hid (Fr NoBlk wr (wq.alloc (.cells #[.string (bstr nm), .slice fa dt.length fc, .int .i64 la] 54))) := HFq.out.alloc _
          have HO7 := Lib.hid (HO.out.nofr HF7.out)
          have HR7 : Hid (Rd (wq.alloc (.cells #[.string (bstr nm), .slice fa dt.length fc, .int .i64 la] 54)) (some ⟨wq.heap.size, 0, none⟩) (rfc ⟨⟨nm, dt, la⟩, fa, fc⟩)) := Rd.of_cells (Bk.new _ _ _)
          have HSZ : Hid (w1.heap.size ≤ (wq.alloc (.cells #[.string (bstr nm), .slice fa dt.length fc, .int .i64 la] 54)).heap.size) := HO7.out.fr.size
          go_wp2_with (at_builtin; refine wpList_appO rfl (.tmp 36) (.tmp 44) 50 rfl w1.heap.size 54 l0 _ 3 48 Tryd.underlying50 hi hz0 hz1 hz2 rfl (by decide) _ os.length (rfcs os) rfl HO7.out.own ⟨wq.heap.size, 0, none⟩ 1 1 (rfc ⟨⟨nm, dt, la⟩, fa, fc⟩) rfl rfl HR7.out ?q1 ?q2 ?q3 HSZ.out ?_)
          case q1 => exact fun u hu => rfcs_one [⟨⟨nm, dt, la⟩, fa, fc⟩] u (by show u ∈ rfc _ ++ []; rw [List.append_nil]; exact hu)
          case q2 => unfold maxLen; omega
          case q3 => omega
          intro v8 w8 ho8 hg8 _
          have HO8 := Lib.hid (HO.out.next _ HF7.out ho8 hg8)
          clear ho8 hg8 HO7 HR7 HSZ
          go_wp2_with fail
          go_roundw
          case rel => exact ⟨k + 1, _, false, by omega, by go_num, rfl, HO8, HY, by rw [List.length_append]; simp; omega⟩
          case measure => simp [intOf]; omega
        · rw [hc] at e5
          have HY : Hid (((os ++ [⟨⟨xn, xd, xl⟩, xa, xc⟩]) ++ [⟨⟨nm, dt, la⟩, fa, fc⟩]) ++ (if true then m.fs.drop (k + 1) else rins ⟨⟨xn, xd, xl⟩, xa, xc⟩ (m.fs.drop (k + 1))) = rins ⟨⟨xn, xd, xl⟩, xa, xc⟩ m.fs) := by
            show _ = _
            rw [← HQ.out, HD.out, List.append_assoc, List.append_assoc]
            show _ = os ++ (if Op.bytesLess xn nm = true then _ else _)
            rw [hc]
            rfl
          go_wp2_with fail
          go_quiet (fail)
          have HFq : Hid (Fr NoBlk wr (wr.drewN nq)) := (Fr.refl _ _).drewN nq
          have hBq := HBr.out.fr HFq.out fun h => h
          have x0' : (wr.drewN nq).cell? ⟨w.heap.size, 0, none⟩ = some (.string (bstr xn)) := hBq.cell 0
          have x1' : (wr.drewN nq).cell? ⟨w.heap.size, 1, none⟩ = some (.slice xa xd.length xc) := hBq.cell 1
          have x2' : (wr.drewN nq).cell? ⟨w.heap.size, 2, none⟩ = some (.int .i64 xl) := hBq.cell 2
          have hbl : b < wr.heap.size := World.block_lt_of_cell? wr _ q0
          have y1 : (wr.drewN nq).cell? ⟨m.g, 1, none⟩ = some (.slice (some ⟨b, 0, none⟩) m.fs.length m.FC) := c1
          have z0 : (wr.drewN nq).cell? ⟨b, k * 3, none⟩ = some (.string (bstr nm)) := q0
          have z1 : (wr.drewN nq).cell? ⟨b, k * 3 + 1, none⟩ = some (.slice fa dt.length fc) := q1
          have z2 : (wr.drewN nq).cell? ⟨b, k * 3 + 2, none⟩ = some (.int .i64 la) := q2
          have hql : m.g < (wr.drewN nq).heap.size := hgl
          have hbq : b < (wr.drewN nq).heap.size := hbl
          clear c1 q0 q1 q2 x0 x1 x2 hBq hbl
          generalize wr.drewN nq = wq at *
          have HF7 : Hid (Fr NoBlk wr (wq.alloc (.cells #[.string (bstr xn), .slice xa xd.length xc, .int .i64 xl] 54))) := HFq.out.alloc _
          have HO7 := Lib.hid (HO.out.nofr HF7.out)
          have HR7 : Hid (Rd (wq.alloc (.cells #[.string (bstr xn), .slice xa xd.length xc, .int .i64 xl] 54)) (some ⟨wq.heap.size, 0, none⟩) (rfc ⟨⟨xn, xd, xl⟩, xa, xc⟩)) := Rd.of_cells (Bk.new _ _ _)
          have HSZ : Hid (w1.heap.size ≤ (wq.alloc (.cells #[.string (bstr xn), .slice xa xd.length xc, .int .i64 xl] 54)).heap.size) := HO7.out.fr.size
          go_wp2_with (at_builtin; refine wpList_appO rfl (.tmp 32) (.tmp 34) 50 rfl w1.heap.size 54 l0 _ 3 48 Tryd.underlying50 hi hz0 hz1 hz2 rfl (by decide) _ os.length (rfcs os) rfl HO7.out.own ⟨wq.heap.size, 0, none⟩ 1 1 (rfc ⟨⟨xn, xd, xl⟩, xa, xc⟩) rfl rfl HR7.out ?q1 ?q2 ?q3 HSZ.out ?_)
          case q1 => exact fun u hu => rfcs_one [⟨⟨xn, xd, xl⟩, xa, xc⟩] u (by show u ∈ rfc _ ++ []; rw [List.append_nil]; exact hu)
          case q2 => unfold maxLen; omega
          case q3 => omega
          intro v8 w8 ho8 hg8 _
          have HO8 := Lib.hid (HO.out.next _ HF7.out ho8 hg8)
          have HRz := Lib.hid (HR.out.nofr (HF1.out.trans HO8.out.fr))
          obtain ⟨_, p1, _, _⟩ := HRz.out.cell
          have hgz := HRz.out.bk.lt
          clear ho8 hg8 HO7 HR7 HSZ y1 z0 z1 z2 hql hbq x0' x1' x2'
          obtain ⟨f', hf'⟩ : ∃ f, m.fs[k]? = some f := ⟨_, List.getElem?_eq_getElem hlt⟩
          obtain ⟨b', hA', _, q0, q1, q2, _⟩ := HRz.out.file hf'
          have hff : f' = ⟨⟨nm, dt, la⟩, fa, fc⟩ := by
            have := drop_at _ k f' hf'
            rw [HD.out] at this
            injection this with this
            exact this.symm
          subst hff
          dsimp only at q0 q1 q2
          rw [hA'] at p1
          clear hf' hA'
          have HF9 : Hid (Fr NoBlk w8 (w8.alloc (.cells #[.string (bstr nm), .slice fa dt.length fc, .int .i64 la] 54))) := (Fr.refl _ _).alloc _
          have HO7 := Lib.hid (HO8.out.nofr HF9.out)
          have HR7 : Hid (Rd (w8.alloc (.cells #[.string (bstr nm), .slice fa dt.length fc, .int .i64 la] 54)) (some ⟨w8.heap.size, 0, none⟩) (rfc ⟨⟨nm, dt, la⟩, fa, fc⟩)) := Rd.of_cells (Bk.new _ _ _)
          have HSZ : Hid (w1.heap.size ≤ (w8.alloc (.cells #[.string (bstr nm), .slice fa dt.length fc, .int .i64 la] 54)).heap.size) := HO7.out.fr.size
          have hol : (os ++ [(⟨⟨xn, xd, xl⟩, xa, xc⟩ : RF)]).length = os.length + 1 := by simp
          generalize os ++ [(⟨⟨xn, xd, xl⟩, xa, xc⟩ : RF)] = os2 at *
          go_wp2_with (at_builtin; refine wpList_appO rfl (.tmp 36) (.tmp 44) 50 rfl w1.heap.size 54 l0 _ 3 48 Tryd.underlying50 hi hz0 hz1 hz2 rfl (by decide) _ os2.length (rfcs os2) rfl HO7.out.own ⟨w8.heap.size, 0, none⟩ 1 1 (rfc ⟨⟨nm, dt, la⟩, fa, fc⟩) rfl rfl HR7.out ?q1 ?q2 ?q3 HSZ.out ?_)
          case q1 => exact fun u hu => rfcs_one [⟨⟨nm, dt, la⟩, fa, fc⟩] u (by show u ∈ rfc _ ++ []; rw [List.append_nil]; exact hu)
          case q2 => unfold maxLen; omega
          case q3 => omega
          intro v9 w9 ho9 hg9 _
          have HO9 := Lib.hid (HO8.out.next _ HF9.out (by rw [hol]; exact ho9) hg9)
          clear ho9 hg9 HO7 HR7 HSZ
          go_wp2_with fail
          go_roundw
          case rel => exact ⟨k + 1, _, true, by omega, by go_num, rfl, HO9, HY, by rw [List.length_append]; simp; omega⟩
          case measure => simp [intOf]; omega
      · have HY : Hid ((os ++ [⟨⟨nm, dt, la⟩, fa, fc⟩]) ++ (if true then m.fs.drop (k + 1) else rins ⟨⟨xn, xd, xl⟩, xa, xc⟩ (m.fs.drop (k + 1))) = rins ⟨⟨xn, xd, xl⟩, xa, xc⟩ m.fs) := by
          show _ = _
          rw [← HQ.out, HD.out, List.append_assoc]
          rfl
        go_wp2_with fail
        go_quiet (fail)
        have HFq : Hid (Fr NoBlk wr (wr.drewN nq)) := (Fr.refl _ _).drewN nq
        have y1 : (wr.drewN nq).cell? ⟨m.g, 1, none⟩ = some (.slice (some ⟨b, 0, none⟩) m.fs.length m.FC) := c1
        have z0 : (wr.drewN nq).cell? ⟨b, k * 3, none⟩ = some (.string (bstr nm)) := q0
        have z1 : (wr.drewN nq).cell? ⟨b, k * 3 + 1, none⟩ = some (.slice fa dt.length fc) := q1
        have z2 : (wr.drewN nq).cell? ⟨b, k * 3 + 2, none⟩ = some (.int .i64 la) := q2
        have hql : m.g < (wr.drewN nq).heap.size := hgl
        clear c1 q0 q1 q2 x0 x1 x2
        generalize wr.drewN nq = wq at *
        have HF7 : Hid (Fr NoBlk wr (wq.alloc (.cells #[.string (bstr nm), .slice fa dt.length fc, .int .i64 la] 54))) := HFq.out.alloc _
        have HO7 := Lib.hid (HO.out.nofr HF7.out)
        have HR7 : Hid (Rd (wq.alloc (.cells #[.string (bstr nm), .slice fa dt.length fc, .int .i64 la] 54)) (some ⟨wq.heap.size, 0, none⟩) (rfc ⟨⟨nm, dt, la⟩, fa, fc⟩)) := Rd.of_cells (Bk.new _ _ _)
        have HSZ : Hid (w1.heap.size ≤ (wq.alloc (.cells #[.string (bstr nm), .slice fa dt.length fc, .int .i64 la] 54)).heap.size) := HO7.out.fr.size
        go_wp2_with (at_builtin; refine wpList_appO rfl (.tmp 36) (.tmp 44) 50 rfl w1.heap.size 54 l0 _ 3 48 Tryd.underlying50 hi hz0 hz1 hz2 rfl (by decide) _ os.length (rfcs os) rfl HO7.out.own ⟨wq.heap.size, 0, none⟩ 1 1 (rfc ⟨⟨nm, dt, la⟩, fa, fc⟩) rfl rfl HR7.out ?q1 ?q2 ?q3 HSZ.out ?_)
        case q1 => exact fun u hu => rfcs_one [⟨⟨nm, dt, la⟩, fa, fc⟩] u (by show u ∈ rfc _ ++ []; rw [List.append_nil]; exact hu)
        case q2 => unfold maxLen; omega
        case q3 => omega
        intro v8 w8 ho8 hg8 _
        have HO8 := Lib.hid (HO.out.next _ HF7.out ho8 hg8)
        clear ho8 hg8 HO7 HR7 HSZ
        go_wp2_with fail
        go_roundw
        case rel => exact ⟨k + 1, _, true, by omega, by go_num, rfl, HO8, HY, by rw [List.length_append]; simp; omega⟩
        case measure => simp [intOf]; omega
    · have HMEM : Hid (∀ f ∈ rins ⟨⟨xn, xd, xl⟩, xa, xc⟩ m.fs, DOk w base f.A f.c f.pf.data) := fun f hf => by
        rcases rins_mem hf with rfl | hf
        · exact HXD.out
        · exact HR.out.dat f hf
      cases done
      · have HE : Hid (os ++ [⟨⟨xn, xd, xl⟩, xa, xc⟩] = rins ⟨⟨xn, xd, xl⟩, xa, xc⟩ m.fs) := by
          show _ = _
          have := HQ.out
          rw [List.drop_eq_nil_of_le (by omega)] at this
          exact this
        have HF7 : Hid (Fr NoBlk wr (wr.alloc (.cells #[.string (bstr xn), .slice xa xd.length xc, .int .i64 xl] 54))) := (Fr.refl _ _).alloc _
        have HO7 := Lib.hid (HO.out.nofr HF7.out)
        have HR7 : Hid (Rd (wr.alloc (.cells #[.string (bstr xn), .slice xa xd.length xc, .int .i64 xl] 54)) (some ⟨wr.heap.size, 0, none⟩) (rfc ⟨⟨xn, xd, xl⟩, xa, xc⟩)) := Rd.of_cells (Bk.new _ _ _)
        have HSZ : Hid (w1.heap.size ≤ (wr.alloc (.cells #[.string (bstr xn), .slice xa xd.length xc, .int .i64 xl] 54)).heap.size) := HO7.out.fr.size
        go_wp2_with (at_builtin; refine wpList_appO rfl (.tmp 48) (.tmp 50) 50 rfl w1.heap.size 54 l0 _ 3 48 Tryd.underlying50 hi hz0 hz1 hz2 rfl (by decide) _ os.length (rfcs os) rfl HO7.out.own ⟨wr.heap.size, 0, none⟩ 1 1 (rfc ⟨⟨xn, xd, xl⟩, xa, xc⟩) rfl rfl HR7.out ?q1 ?q2 ?q3 HSZ.out ?_)
        case q1 => exact fun u hu => rfcs_one [⟨⟨xn, xd, xl⟩, xa, xc⟩] u (by show u ∈ rfc _ ++ []; rw [List.append_nil]; exact hu)
        case q2 => unfold maxLen; omega
        case q3 => omega
        intro v8 w8 ho8 hg8 _
        have HO8 := Lib.hid (HO.out.next _ HF7.out ho8 hg8)
        clear ho8 hg8 HO7 HR7 HSZ
        have HRz := Lib.hid (HR.out.nofr (HF1.out.trans HO8.out.fr))
        obtain ⟨_, p1, _, _⟩ := HRz.out.cell
        have hgz := HRz.out.bk.lt
        have hpz := HRz.out.bk.free 1
        obtain ⟨A, c, rfl, _, _⟩ := own_form HO8.out.own
        have HZ := Lib.hid (RowPost.of HR.out HF1.out HO8.out (by rw [HE.out]; exact HMEM.out) HB.out)
        rw [HE.out] at HZ
        rw [HE.out]
        go_wp2_with fail
        go_end0
        exact ⟨rfl, HZ.out⟩
      · have HE : Hid (os = rins ⟨⟨xn, xd, xl⟩, xa, xc⟩ m.fs) := by
          show _ = _
          have := HQ.out
          rw [List.drop_eq_nil_of_le (by omega)] at this
          simpa using this
        obtain ⟨A, c, rfl, _, _⟩ := own_form HO.out.own
        have HZ := Lib.hid (RowPost.of HR.out HF1.out HO.out (by rw [HE.out]; exact HMEM.out) HB.out)
        go_wp2_with fail
        go_end0
        exact ⟨rfl, by rw [← HE.out]; exact HZ.out⟩
end Go.Proofs.YtokonhcphhpogaaDoor

namespace Go.Proofs.YtokonhcphhpogaaDoor
open Go.RowKit

/-- one file of the row has turned. -/
theorem RIn.turn {w : World} {base : Nat} {m : RM} (h : RIn w base m) {j : Nat} {f : RF} (hx : m.fs[j]? = some f) {b : Nat} (hA : m.FA = some ⟨b, 0, none⟩) (y : RF) (i : Nat) (hi : i < 3) (u : Value) (hu : (rfc f).set i u = rfc y)
    (hy : DOk w base y.A y.c y.pf.data) : RIn (w.setCell ⟨b, j * 3 + i, none⟩ u) base { m with fs := m.fs.set j y } ∧ Fr m.own w (w.setCell ⟨b, j * 3 + i, none⟩ u) := by
  have ho : m.own b := .inr ⟨_, hA, rfl⟩
  have hf : Fr m.own w (w.setCell ⟨b, j * 3 + i, none⟩ u) := (Fr.refl m.own w).setCell (p := ⟨b, j * 3 + i, none⟩) (fun _ => ho) u
  have hrow := h.row
  rw [hA] at hrow
  have hne : b ≠ m.g := fun e => own_apart hrow h.bk (by decide) (by rw [← e]; rfl)
  refine ⟨⟨?_, h.gb, ?_, fun g hg => ?_⟩, hf⟩
  · show Bk _ m.g _ #[.int .i64 m.room, .slice m.FA (m.fs.set j y).length m.FC, .int .i64 m.left, .bool m.down]
    rw [List.length_set]
    exact h.bk.far (p := ⟨b, j * 3 + i, none⟩) (fun e => hne e.symm) u
  · show World.ownsRow _ _ _ _ (.slice m.FA (m.fs.set j y).length m.FC) (m.fs.set j y).length (rfcs (m.fs.set j y))
    rw [List.length_set, hA, ← rfcs_set m.fs j f y hx i hi u hu]
    exact (hrow.stored (j * 3 + i) u).1
  · have hd : DOk w base g.A g.c g.pf.data := by
      rcases List.mem_or_eq_of_mem_set hg with hg | rfl
      · exact h.dat g hg
      · exact hy
    exact hd.fr hf (h.apart hd)
theorem RIn.turnP {w : World} {base : Nat} {m : RM} (h : RIn w base m) {j : Nat} {f : RF} (hx : m.fs[j]? = some f) {b : Nat} (hA : m.FA = some ⟨b, 0, none⟩) (y : RF) (i : Nat) (hi : i < 3) (u : Value) (hu : (rfc f).set i u = rfc y)
    (hy : DOk w base y.A y.c y.pf.data) (hb : 0 < y.pf.data.length → ∀ k, ablk y.A k → m.blk k) : RPost w (w.setCell ⟨b, j * 3 + i, none⟩ u) base m { m with fs := m.fs.set j y } := by
  obtain ⟨h1, h2⟩ := h.turn hx hA y i hi u hu hy
  refine ⟨h1, rfl, h2, fun k hk => .inl hk, fun k hk => .inl ?_⟩
  rcases hk with hk | ⟨g, hg, hp, hk⟩
  · exact .inl hk
  · rcases List.mem_or_eq_of_mem_set hg with hg | rfl
    · exact .inr ⟨g, hg, hp, hk⟩
    · exact hb hp k hk
/-- to turn the one file of a name is to set its place. -/
theorem pset_at (L : List PF) (hn : (L.map (·.name)).Nodup) (j : Nat) (f : PF) (h : L[j]? = some f) (a : PF → PF) : pset L f.name a = L.set j (a f) := by
  induction L generalizing j with
  | nil => cases h
  | cons g t ih =>
    rw [List.map_cons, List.nodup_cons] at hn
    cases j with
    | zero =>
      injection h with h
      subst h
      show (if g.name = g.name then a g else g) :: pset t g.name a = a g :: t
      rw [if_pos rfl]
      congr 1
      unfold pset
      conv => rhs; rw [← List.map_id t]
      apply List.map_congr_left
      intro x hx
      rw [if_neg (fun e => hn.1 (List.mem_map.2 ⟨x, hx, e⟩))]
      rfl
    | succ j =>
      have h' : t[j]? = some f := h
      have hne : ¬ g.name = f.name := fun e => hn.1 (List.mem_map.2 ⟨f, List.mem_of_getElem? h', e.symm⟩)
      show (if g.name = f.name then a g else g) :: pset t f.name a = g :: t.set j (a f)
      rw [if_neg hne, ih hn.2 j h']

theorem pChange_down {p : PD} (k : Bs) (rt : PF → Bool) (act : PF → List PF → List PF) (h : p.down = true) : pChange p k rt act = (p, 3) := by
  unfold pChange
  rw [if_pos h]
theorem pChange_none {p : PD} {k : Bs} (rt : PF → Bool) (act : PF → List PF → List PF) (h : p.down = false) (hn : pfind p.files k = none) : pChange p k rt act = (p, 60) := by
  unfold pChange
  rw [h, hn]; rfl
theorem pChange_some {p : PD} {k : Bs} {f : PF} (rt : PF → Bool) (act : PF → List PF → List PF) (h : p.down = false) (hf : pfind p.files k = some f) :
    pChange p k rt act = if rt f = false then (p, 1) else if p.left = 0 then (pspend p, 3) else ({ pspend p with files := act f p.files }, 0) := by
  unfold pChange
  rw [h, hf]; rfl
/-- what a call of the document's that tells an error's number leaves. -/
def REnd (w : World) (base : Nat) (m : RM) (r : PD × Int) (e : Ending) (w' : World) : Prop := e = .returned (.int .i64 r.2) ∧ ∃ m', m'.pd = r.1 ∧ RPost w w' base m m'
theorem REnd.same {w : World} {base : Nat} {m : RM} (h : RIn w base m) {r : PD × Int} {z : Int} (hr : r = (m.pd, z)) : REnd w base m r (.returned (.int .i64 z)) w := by
  subst hr
  exact ⟨rfl, m, rfl, RPost.refl h⟩
theorem REnd.drew {w : World} {base : Nat} {m : RM} {r : PD × Int} {e : Ending} {w' : World} (h : REnd w base m r e w') : REnd w base m r e w'.drew := by
  obtain ⟨h1, m', h2, h3⟩ := h
  exact ⟨h1, m', h2, h3.more (Fr.refl _ _).drew⟩
theorem RPost.row {w w4 w5 : World} {base : Nat} {m m3 : RM} {os : List RF} (H : RPost w w4 base m m3) (hr : RowPost w4 w5 base m3 os) (hb : ∀ f ∈ os, 0 < f.pf.data.length → ∀ k, ablk f.A k → m.blk k ∨ w.heap.size ≤ k) :
    ∃ m', RPost w w5 base m m' ∧ m'.fs = os ∧ m'.room = m3.room ∧ m'.left = m3.left ∧ m'.down = m3.down := by
  obtain ⟨A, c, h1, h2, h3⟩ := hr
  have hs := H.fr.size
  refine ⟨_, ⟨h1, H.g, H.fr.step h2 fun k hk hc => (H.own k hc).elim id fun h => by omega, fun k hk => ?_, fun k hk => ?_⟩, rfl, rfl, rfl, rfl⟩
  · rcases hk with hk | hk
    · exact H.own k (.inl hk)
    · exact .inr (Nat.le_trans hs (h3 k hk))
  · rcases hk with (hk | hk) | ⟨f, hf, hp, hk⟩
    · exact H.blk k (.inl (.inl hk))
    · exact .inr (Nat.le_trans hs (h3 k hk))
    · exact hb f hf hp k hk
/-- as much as a call asks. -/
structure RFit (m : RM) : Prop where
  len : m.fs.length ≤ 32
  tot : ptotal m.pfs ≤ m.room
  room : m.room ≤ 1048576
  nodup : (m.pfs.map (·.name)).Nodup
  left : -9223372036854775808 ≤ m.left ∧ m.left ≤ 9223372036854775807
  last : ∀ f ∈ m.pfs, f.last ≤ f.data.length

set_option maxRecDepth 100000 in
theorem rsync_any (w : World) (base : Nat) (m : RM) (h : RIn w base m) (ht : RFit m) (key : Bs) :
    Calls Tryd.prog 44 #[.pointer (some ⟨m.g, 0, none⟩), .string (bstr key)] w (REnd w base m (pSync m.pd key)) := by
  have hl := ht.len
  have HFI := Lib.hid (rfind_any w base m h key (by omega))
  have HUS := Lib.hid (ruse_any w base m h ht.left)
  have HR := Lib.hid h
  have HT := Lib.hid ht
  have hgl := h.bk.lt
  obtain ⟨r, hr⟩ : ∃ r, r = pSync m.pd key := ⟨_, rfl⟩
  have HQ := Lib.hid hr
  rw [← hr]
  clear h ht hr
  unfold pSync at HQ
  go_enter Tryd.func44, Tryd.ntmps44
  go_wp2_with fail
  refine HFI.out.mono ?_
  clear HFI
  rintro e w1 ⟨hq, rfl⟩
  cases hd : m.down
  · rw [hd] at hq
    rcases hq with ⟨hn, rfl⟩ | ⟨j, f, hj, hk, hf, rfl⟩
    · have HZ : Hid (REnd w base m r (.returned (.int .i64 60)) w) := REnd.same HR.out (by
        rw [HQ.out]
        exact pChange_none _ _ hd hn)
      go_wp2_with fail
      go_ret
      exact HZ.out
    · have HJ := Lib.hid hj
      have HK := Lib.hid hk
      have hjl := (List.getElem?_eq_some_iff.1 hj).1
      have HQ1 : Hid (r = if m.left = 0 then (pspend m.pd, 3) else ({ pspend m.pd with files := pset m.pfs key fun g => { g with last := g.data.length } }, 0)) := by
        show _ = _
        rw [HQ.out]
        exact pChange_some _ _ hd hf
      clear hj hk hf HQ
      go_wp2_with fail
      refine HUS.out.mono ?_
      clear HUS
      rintro e w2 ⟨rfl, hp2⟩
      have HP2 := Lib.hid hp2
      clear hp2
      by_cases h0 : m.left = 0
      · have e0 : decide (m.left = 0) = true := decide_eq_true h0
        have HZ : Hid (REnd w base m r (.returned (.int .i64 3)) w2) := by
          refine ⟨?_, _, ?_, HP2.out⟩
          · rw [HQ1.out, if_pos h0]
          · rw [HQ1.out, if_pos h0, rspend_pd]
        rw [e0]
        clear e0 h0
        go_wp2_with fail
        go_ret
        exact HZ.out
      · have e0 : decide (m.left = 0) = false := decide_eq_false h0
        obtain ⟨s1, s2, s3, s4, s5⟩ := rspend_fs m
        have hj' : (rspend m).fs[j]? = some f := by rw [s1]; exact HJ.out
        obtain ⟨b, hA, hne, q0, q1, q2, hfz⟩ := HP2.out.rin.file hj'
        obtain ⟨_, c1, _, _⟩ := HP2.out.rin.cell
        have hg2 := HP2.out.rin.bk.lt
        rw [s2] at hg2 c1
        rw [hA, s1] at c1
        have hfz2 := hfz (j * 3 + 2)
        have HZ : Hid (REnd w base m r (.returned (.int .i64 0)) (w2.setCell ⟨b, j * 3 + 2, none⟩ (.int .i64 f.pf.data.length))) := by
          refine ⟨?_, _, ?_, HP2.out.trans (HP2.out.rin.turnP hj' hA { f with pf := { f.pf with last := f.pf.data.length } } 2 (by omega) (.int .i64 f.pf.data.length) rfl (HP2.out.rin.dat f (List.mem_of_getElem? hj')) fun hp k hk => .inr ⟨f, List.mem_of_getElem? hj', hp, hk⟩)⟩
          · rw [HQ1.out, if_neg h0]
          · rw [HQ1.out, if_neg h0]
            show (⟨(rspend m).room, (rspend m).left, (rspend m).down, ((rspend m).fs.set j _).map RF.pf⟩ : PD) = _
            have e1 : ((rspend m).fs.set j { f with pf := { f.pf with last := f.pf.data.length } }).map RF.pf = pset m.pfs key fun g => { g with last := g.data.length } := by
              rw [s1, List.map_set, ← HK.out]
              exact (pset_at m.pfs HT.out.nodup j f.pf (by show (m.fs.map RF.pf)[j]? = _; rw [List.getElem?_map, HJ.out]; rfl) (fun g => { g with last := g.data.length })).symm
            rw [e1, ← rspend_pd]
            rfl
        have i0' : (0 : Int) ≤ (j : Int) := by omega
        have i1' : (j : Int) < (m.fs.length : Int) := by omega
        rw [e0]
        clear e0 h0 hj' hA hne hfz q0 HP2 HQ1 s1 s2 s3 s4 s5
        generalize f.pf.data.length = dn at *
        go_wp2_with fail
        go_region
        all_goals
          go_wp2_with fail
          go_ret
          first | exact HZ.out | exact HZ.out.drew
  · rw [hd] at hq
    subst hq
    have HZ : Hid (REnd w base m r (.returned (.int .i64 3)) w) := REnd.same HR.out (by
      rw [HQ.out]
      exact pChange_down _ _ _ hd)
    go_wp2_with fail
    go_ret
    exact HZ.out
end Go.Proofs.YtokonhcphhpogaaDoor

namespace Go.Proofs.YtokonhcphhpogaaDoor
open Go.RowKit

def RRead (w : World) (r : Bs × Int) (e : Ending) (w' : World) : Prop := ∃ A c, e = .returned (.tuple #[.slice A r.1.length c, .int .i64 r.2]) ∧ Rd w' A (cb r.1) ∧ Fr NoBlk w w' ∧ r.1.length ≤ c ∧ (A = none → c = 0)
theorem ptotal_mem {L : List PF} {f : PF} (h : f ∈ L) : f.data.length ≤ ptotal L := by
  induction L with
  | nil => cases h
  | cons g t ih =>
    show _ ≤ g.data.length + ptotal t
    rcases List.mem_cons.1 h with rfl | h
    · omega
    · have := ih h; omega
set_option maxRecDepth 100000 in
theorem rread_any (w : World) (base : Nat) (m : RM) (h : RIn w base m) (ht : RFit m) (key : Bs) :
    Calls Tryd.prog 47 #[.pointer (some ⟨m.g, 0, none⟩), .string (bstr key)] w (RRead w (pRead m.pd key)) := by
  obtain ⟨i0, hi, hz0, hz1, hz2⟩ := info_parts byteInfo
  have hl := ht.len
  have HFI := Lib.hid (rfind_any w base m h key (by omega))
  have HR := Lib.hid h
  have HT := Lib.hid ht
  have hgl := h.bk.lt
  obtain ⟨r, hr⟩ : ∃ r, r = pRead m.pd key := ⟨_, rfl⟩
  have HQ := Lib.hid hr
  rw [← hr]
  clear h ht hr
  unfold pRead at HQ
  go_enter Tryd.func47, Tryd.ntmps47
  go_wp2_with fail
  refine HFI.out.mono ?_
  clear HFI
  rintro e w1 ⟨hq, rfl⟩
  have HFA : Hid (Fr NoBlk w (w.alloc (.cells #[] 5))) := (Fr.refl _ _).alloc _
  cases hd : m.down
  · rw [hd] at hq
    rcases hq with ⟨hn, rfl⟩ | ⟨j, f, hj, hk, hf, rfl⟩
    · have HZ : Hid (r = ([], 60)) := by
        show _ = _
        have h1 : m.pd.down = false := hd
        have h2 : pfind m.pd.files key = none := hn
        rw [HQ.out, h1, h2]; rfl
      go_wp2_with fail
      go_ret2
      rw [HZ.out]
      exact ⟨_, _, rfl, Rd.none_ _ _, HFA.out, Nat.le_refl _, fun h => by cases h⟩
    · have HZ : Hid (r = (f.pf.data, 0)) := by
        show _ = _
        have h1 : m.pd.down = false := hd
        have h2 : pfind m.pd.files key = some f.pf := hf
        rw [HQ.out, h1, h2]; rfl
      have HRA := Lib.hid (HR.out.nofr HFA.out)
      have hjl := (List.getElem?_eq_some_iff.1 hj).1
      obtain ⟨b, hA, hne, q0, q1, q2, hfz⟩ := HRA.out.file hj
      obtain ⟨_, c1, _, _⟩ := HRA.out.cell
      have hga := HRA.out.bk.lt
      rw [hA] at c1
      have i0' : (0 : Int) ≤ (j : Int) := by omega
      have i1' : (j : Int) < (m.fs.length : Int) := by omega
      have HD := Lib.hid (HRA.out.dat f (List.mem_of_getElem? hj))
      have hdl : f.pf.data.length ≤ 1048576 := by
        have h1 := HT.out.tot
        have h2 := HT.out.room
        have h3 : f.pf ∈ m.pfs := List.mem_map.2 ⟨f, List.mem_of_getElem? hj, rfl⟩
        have := ptotal_mem h3
        omega
      clear hj hk hf hA hne q0 q2 hfz HQ
      obtain ⟨⟨nm, dt, la⟩, fa, fc⟩ := f
      dsimp only at q1 HD hdl HZ
      have HDL : Hid ((cb dt).length = dt.length * 1) := by show _ = _; rw [cb_length, Nat.mul_one]
      go_wp2_with (at_builtin; refine wpList_appB rfl _ _ 22 rfl 5 i0 _ 1 1 Tryd.underlying22 hi hz0 hz1 hz2 rfl (by decide) _ rfl fa fc dt.length (cb dt) rfl HDL.out HD.out.rd (cb_one _) HD.out.nil (by unfold maxLen; omega) (by omega) ?_)
      intro A1 c1' w3 hg3
      have HG := Lib.hid hg3.ofAlloc
      clear hg3
      go_wp2_with fail
      go_ret2
      rw [HZ.out]
      exact ⟨_, _, rfl, HG.out.got.rd, HG.out.got.fr, HG.out.got.le, HG.out.got.nil⟩
  · rw [hd] at hq
    subst hq
    have HZ : Hid (r = ([], 3)) := by
      show _ = _
      have h1 : m.pd.down = true := hd
      rw [HQ.out, h1]; rfl
    go_wp2_with fail
    go_ret2
    rw [HZ.out]
    exact ⟨_, _, rfl, Rd.none_ _ _, HFA.out, Nat.le_refl _, fun h => by cases h⟩

theorem rdel_mem {L : List RF} {k : Bs} {f : RF} (h : f ∈ rdel L k) : f ∈ L := (List.mem_filter.1 h).1
theorem rdel_len (L : List RF) (k : Bs) : (rdel L k).length ≤ L.length := List.length_filter_le ..
set_option maxRecDepth 100000 in
theorem rremove_any (w : World) (base : Nat) (m : RM) (h : RIn w base m) (ht : RFit m) (hb : base ≤ w.heap.size) (key : Bs) :
    Calls Tryd.prog 42 #[.pointer (some ⟨m.g, 0, none⟩), .string (bstr key)] w (REnd w base m (pRemove m.pd key)) := by
  have hl := ht.len
  have HFI := Lib.hid (rfind_any w base m h key (by omega))
  have HUS := Lib.hid (ruse_any w base m h ht.left)
  have HR := Lib.hid h
  have hgl := h.bk.lt
  obtain ⟨r, hr⟩ : ∃ r, r = pRemove m.pd key := ⟨_, rfl⟩
  have HQ := Lib.hid hr
  rw [← hr]
  clear h ht hr
  unfold pRemove at HQ
  go_enter Tryd.func42, Tryd.ntmps42
  go_wp2_with fail
  refine HFI.out.mono ?_
  clear HFI
  rintro e w1 ⟨hq, rfl⟩
  cases hd : m.down
  · rw [hd] at hq
    rcases hq with ⟨hn, rfl⟩ | ⟨j, f, hj, hk, hf, rfl⟩
    · have HZ : Hid (REnd w base m r (.returned (.int .i64 60)) w) := REnd.same HR.out (by
        rw [HQ.out]
        exact pChange_none _ _ hd hn)
      go_wp2_with fail
      go_ret
      exact HZ.out
    · have HQ1 : Hid (r = if m.left = 0 then (pspend m.pd, 3) else ({ pspend m.pd with files := pdel m.pfs key }, 0)) := by
        show _ = _
        rw [HQ.out]
        exact pChange_some _ _ hd hf
      clear hj hk hf HQ
      go_wp2_with fail
      refine HUS.out.mono ?_
      clear HUS
      rintro e w2 ⟨rfl, hp2⟩
      have HP2 := Lib.hid hp2
      clear hp2
      by_cases h0 : m.left = 0
      · have e0 : decide (m.left = 0) = true := decide_eq_true h0
        have HZ : Hid (REnd w base m r (.returned (.int .i64 3)) w2) := by
          refine ⟨?_, _, ?_, HP2.out⟩
          · rw [HQ1.out, if_pos h0]
          · rw [HQ1.out, if_pos h0, rspend_pd]
        rw [e0]
        clear e0 h0
        go_wp2_with fail
        go_ret
        exact HZ.out
      · have e0 : decide (m.left = 0) = false := decide_eq_false h0
        obtain ⟨s1, s2, s3, s4, s5⟩ := rspend_fs m
        have HDR := Lib.hid (rdrop_any w2 base (rspend m) HP2.out.rin key (by rw [s1]; omega) (Nat.le_trans hb HP2.out.fr.size))
        rw [s2] at HDR
        have HFIN : Hid (∀ w3, RowPost w2 w3 base (rspend m) (rdel (rspend m).fs key) → REnd w base m r (.returned (.int .i64 0)) w3) := fun w3 hp3 => by
          obtain ⟨m', h1, h2, h3, h4, h5⟩ := HP2.out.row hp3 fun f hf hp k hk => HP2.out.blk k (.inr ⟨f, rdel_mem hf, hp, hk⟩)
          refine ⟨by rw [HQ1.out, if_neg h0], m', ?_, h1⟩
          rw [HQ1.out, if_neg h0]
          have e1 : m'.fs.map RF.pf = pdel m.pfs key := by rw [h2, rdel_pf, s1]
          show (⟨m'.room, m'.left, m'.down, m'.fs.map RF.pf⟩ : PD) = { pspend m.pd with files := pdel m.pfs key }
          rw [e1, h3, h4, h5, ← rspend_pd m]
          rfl
        rw [e0]
        clear e0 h0 HP2 HQ1 s1 s2 s3 s4 s5
        go_wp2_with fail
        refine HDR.out.mono ?_
        clear HDR
        rintro e w3 ⟨rfl, hp3⟩
        have HZ := Lib.hid (HFIN.out w3 hp3)
        clear hp3 HFIN
        go_wp2_with fail
        go_ret
        exact HZ.out
  · rw [hd] at hq
    subst hq
    have HZ : Hid (REnd w base m r (.returned (.int .i64 3)) w) := REnd.same HR.out (by
      rw [HQ.out]
      exact pChange_down _ _ _ hd)
    go_wp2_with fail
    go_ret
    exact HZ.out

set_option maxRecDepth 100000 in
set_option maxHeartbeats 1000000 in
theorem rrename_any (w : World) (base : Nat) (m : RM) (h : RIn w base m) (ht : RFit m) (hb : base ≤ w.heap.size) (key tt : Bs) (htl : tt.length ≤ maxLen) :
    Calls Tryd.prog 45 #[.pointer (some ⟨m.g, 0, none⟩), .string (bstr key), .string (bstr tt)] w (REnd w base m (pRename m.pd key tt)) := by
  have hl := ht.len
  have HFI := Lib.hid (rfind_any w base m h key (by omega))
  have HUS := Lib.hid (ruse_any w base m h ht.left)
  have HR := Lib.hid h
  have hgl := h.bk.lt
  have hsz := bstr_size tt
  obtain ⟨r, hr⟩ : ∃ r, r = pRename m.pd key tt := ⟨_, rfl⟩
  have HQ := Lib.hid hr
  rw [← hr]
  clear h ht hr
  unfold pRename at HQ
  unfold maxLen at htl
  go_enter Tryd.func45, Tryd.ntmps45
  go_wp2_with fail
  refine HFI.out.mono ?_
  clear HFI
  rintro e w1 ⟨hq, rfl⟩
  cases hd : m.down
  · rw [hd] at hq
    rcases hq with ⟨hn, rfl⟩ | ⟨j, f, hj, hk, hf, rfl⟩
    · have HZ : Hid (REnd w base m r (.returned (.int .i64 60)) w) := REnd.same HR.out (by
        rw [HQ.out]
        exact pChange_none _ _ hd hn)
      go_wp2_with fail
      go_ret
      exact HZ.out
    · have HJ := Lib.hid hj
      have hjl := (List.getElem?_eq_some_iff.1 hj).1
      have HQ1 : Hid (r = if isNm tt = false then (m.pd, 1) else if m.left = 0 then (pspend m.pd, 3) else ({ pspend m.pd with files := pins { f.pf with name := tt } (pdel (pdel m.pfs key) tt) }, 0)) := by
        show _ = _
        rw [HQ.out]
        exact pChange_some _ _ hd hf
      have HBAD : Hid (isNm tt = false → REnd w base m r (.returned (.int .i64 1)) w) := fun e => REnd.same HR.out (by rw [HQ1.out, if_pos e])
      clear hj hk hf HQ
      by_cases hn1 : tt.length < 1
      · have HZ := Lib.hid (HBAD.out (by unfold isNm; rw [decide_eq_false (by omega)]; rfl))
        have d1 : decide ((tt.length : Int) < 1) = true := decide_eq_true (by omega)
        go_wp2_with fail
        go_ret
        exact HZ.out
      by_cases hn2 : 16 < tt.length
      · have HZ := Lib.hid (HBAD.out (by unfold isNm; rw [decide_eq_false (by omega : ¬ tt.length ≤ 16), Bool.and_false]))
        have d1 : decide ((tt.length : Int) < 1) = false := decide_eq_false (by omega)
        have d2 : decide ((16 : Int) < (tt.length : Int)) = true := decide_eq_true (by omega)
        go_wp2_with fail
        go_ret
        exact HZ.out
      have HNM : Hid (¬ isNm tt = false) := by show ¬ _; unfold isNm; rw [decide_eq_true (by omega : 1 ≤ tt.length), decide_eq_true (by omega : tt.length ≤ 16)]; decide
      have d1 : decide ((tt.length : Int) < 1) = false := decide_eq_false (by omega)
      have d2 : decide ((16 : Int) < (tt.length : Int)) = false := decide_eq_false (by omega)
      clear HBAD
      go_wp2_with fail
      refine HUS.out.mono ?_
      clear HUS
      rintro e w2 ⟨rfl, hp2⟩
      have HP2 := Lib.hid hp2
      clear hp2
      by_cases h0 : m.left = 0
      · have e0 : decide (m.left = 0) = true := decide_eq_true h0
        have HZ : Hid (REnd w base m r (.returned (.int .i64 3)) w2) := by
          refine ⟨?_, _, ?_, HP2.out⟩
          · rw [HQ1.out, if_neg HNM.out, if_pos h0]
          · rw [HQ1.out, if_neg HNM.out, if_pos h0, rspend_pd]
        rw [e0]
        clear e0 h0
        go_wp2_with fail
        go_ret
        exact HZ.out
      · have e0 : decide (m.left = 0) = false := decide_eq_false h0
        obtain ⟨s1, s2, s3, s4, s5⟩ := rspend_fs m
        have hj' : (rspend m).fs[j]? = some f := by rw [s1]; exact HJ.out
        obtain ⟨b, hA, hne, q0, q1, q2, hfz⟩ := HP2.out.rin.file hj'
        obtain ⟨_, c1, _, _⟩ := HP2.out.rin.cell
        have hg2 := HP2.out.rin.bk.lt
        rw [s2] at hg2 c1
        rw [hA, s1] at c1
        have i0' : (0 : Int) ≤ (j : Int) := by omega
        have i1' : (j : Int) < (m.fs.length : Int) := by omega
        obtain ⟨⟨nm, dt, la⟩, fa, fc⟩ := f
        dsimp only at q0 q1 q2 HQ1
        have HFM : Hid ((⟨⟨nm, dt, la⟩, fa, fc⟩ : RF) ∈ m.fs) := List.mem_of_getElem? HJ.out
        have HD0 := Lib.hid (HP2.out.rin.dat _ (List.mem_of_getElem? hj'))
        dsimp only at HD0
        -- the file's box
        obtain ⟨w3, hw3⟩ : ∃ w3, w3 = w2.alloc (.cells #[.string (bstr nm), .slice fa dt.length fc, .int .i64 la] 54) := ⟨_, rfl⟩
        have HF3 : Hid (Fr NoBlk w2 w3) := by show Fr _ _ _; rw [hw3]; exact (Fr.refl _ _).alloc _
        have HB3 : Hid (Bk w3 w2.heap.size 54 #[.string (bstr nm), .slice fa dt.length fc, .int .i64 la]) := by show Bk _ _ _ _; rw [hw3]; exact Bk.new _ _ _
        have HP3 := Lib.hid (HP2.out.more HF3.out)
        have HS3 : Hid (∀ k, (rspend m).own k → k < w2.heap.size) := fun k hk => (HP2.out.rin.own hk).2
        have hs3 : w2.heap.size < w3.heap.size := HB3.out.lt
        have hb3 : base ≤ w3.heap.size := Nat.le_trans hb HP3.out.fr.size
        have HD3 := Lib.hid (HD0.out.nofr HF3.out)
        have hlen3 : (rspend m).fs.length ≤ 32 := by rw [s1]; omega
        have HDR := Lib.hid (rdrop_any w3 base (rspend m) HP3.out.rin key (by omega) hb3)
        rw [s2] at HDR
        rw [e0]
        clear e0 hj' hA hne hfz HJ
        have HW3 := Lib.hid hw3
        go_wp2_with fail
        rw [← HW3.out]
        clear HW3 hw3 q0 q1 q2 c1
        refine HDR.out.mono ?_
        clear HDR
        rintro e w4 ⟨rfl, hp4⟩
        obtain ⟨m4, P4, h42, h43, h44, h45⟩ := hp4.post fun f hf hp k hk => .inl (.inr ⟨f, rdel_mem hf, hp, hk⟩)
        have HB4 : Hid (Bk w4 w2.heap.size 54 #[.string (bstr nm), .slice fa dt.length fc, .int .i64 la]) := HB3.out.fr P4.fr fun hk => by have := HS3.out _ hk; omega
        have HD4 : Hid (DOk w4 base fa fc dt) := HD3.out.fr P4.fr (HP3.out.rin.apart HD3.out)
        have HP4 := Lib.hid (HP3.out.trans P4)
        have hb4 : base ≤ w4.heap.size := Nat.le_trans hb HP4.out.fr.size
        have hs4 : w3.heap.size ≤ w4.heap.size := P4.fr.size
        have hown4 : ¬ m4.own w2.heap.size := fun hk => (P4.own _ hk).elim (fun h => by have := HS3.out _ h; omega) fun h => by omega
        have hlen4 : m4.fs.length ≤ 32 := by rw [h42]; exact Nat.le_trans (rdel_len _ _) hlen3
        have hg4 : m4.g = m.g := HP4.out.g
        have HDR := Lib.hid (rdrop_any w4 base m4 HP4.out.rin tt (by omega) hb4)
        rw [hg4] at HDR
        have HN4 : Hid (¬ m4.blk w2.heap.size) := fun hk => (P4.blk _ hk).elim (fun h => by have := (HP2.out.rin.blk h).2; omega) fun h => by omega
        have HE4 := Lib.hid (And.intro h42 (And.intro h43 (And.intro h44 h45)))
        clear h42 h43 h44 h45 P4 hp4
        go_wp2_with fail
        refine HDR.out.mono ?_
        clear HDR
        rintro e w5 ⟨rfl, hp5⟩
        obtain ⟨m5, P5, h52, h53, h54, h55⟩ := hp5.post fun f hf hp k hk => .inl (.inr ⟨f, rdel_mem hf, hp, hk⟩)
        have HB5 : Hid (Bk w5 w2.heap.size 54 #[.string (bstr nm), .slice fa dt.length fc, .int .i64 la]) := HB4.out.fr P5.fr hown4
        have HD5 : Hid (DOk w5 base fa fc dt) := HD4.out.fr P5.fr (HP4.out.rin.apart HD4.out)
        have HP5 := Lib.hid (HP4.out.trans P5)
        have hs5 : w4.heap.size ≤ w5.heap.size := P5.fr.size
        have hlen5 : m5.fs.length ≤ 32 := by rw [h52]; exact Nat.le_trans (rdel_len _ _) hlen4
        have hg5 : m5.g = m.g := HP5.out.g
        have HN5 : Hid (¬ m5.blk w2.heap.size) := fun hk => (P5.blk _ hk).elim (fun h => HN4.out h) fun h => by omega
        have HE5 := Lib.hid (And.intro h52 (And.intro h53 (And.intro h54 h55)))
        have hl2 : w.heap.size ≤ w2.heap.size := HP2.out.fr.size
        have HF6 : Hid (Fr (fun k => k = w2.heap.size) w5 (w5.setCell ⟨w2.heap.size, 0, none⟩ (.string (bstr tt)))) := (Fr.refl (fun k => k = w2.heap.size) w5).setCell (p := ⟨w2.heap.size, 0, none⟩) (fun _ => rfl) _
        have HP6 : Hid (RPost w (w5.setCell ⟨w2.heap.size, 0, none⟩ (.string (bstr tt))) base m m5) := ⟨HP5.out.rin.fr HF6.out fun k hk e => HN5.out (e ▸ hk), HP5.out.g, HP5.out.fr.step HF6.out fun i hi e => by omega, HP5.out.own, HP5.out.blk⟩
        have HD6 : Hid (DOk (w5.setCell ⟨w2.heap.size, 0, none⟩ (.string (bstr tt))) base fa fc dt) := HD5.out.fr HF6.out fun hp k hk e => by
          obtain ⟨_, cs, hbk⟩ := HD0.out.blk hp k hk
          have := hbk.lt
          omega
        have hx0 : w5.cell? ⟨w2.heap.size, 0, none⟩ = some (.string (bstr nm)) := HB5.out.cell 0
        have hy0 := HB5.out.free 0
        have HB6 := HB5.out.put 0 (.string (bstr tt))
        have hx6 : (w5.setCell ⟨w2.heap.size, 0, none⟩ (.string (bstr tt))).cell? ⟨w2.heap.size, 0, none⟩ = some (.string (bstr tt)) := HB6.cell 0
        have hx7 : (w5.setCell ⟨w2.heap.size, 0, none⟩ (.string (bstr tt))).cell? ⟨w2.heap.size, 1, none⟩ = some (.slice fa dt.length fc) := HB6.cell 1
        have hx8 : (w5.setCell ⟨w2.heap.size, 0, none⟩ (.string (bstr tt))).cell? ⟨w2.heap.size, 2, none⟩ = some (.int .i64 la) := HB6.cell 2
        have HPU := Lib.hid (rput_any (w5.setCell ⟨w2.heap.size, 0, none⟩ (.string (bstr tt))) base m5 HP6.out.rin ⟨⟨tt, dt, la⟩, fa, fc⟩ HD6.out (by omega) (Nat.le_trans hb HP6.out.fr.size))
        rw [hg5] at HPU
        unfold rfv st at HPU
        dsimp only at HPU
        have HFIN : Hid (∀ w7, RowPost (w5.setCell ⟨w2.heap.size, 0, none⟩ (.string (bstr tt))) w7 base m5 (rins ⟨⟨tt, dt, la⟩, fa, fc⟩ m5.fs) → REnd w base m r (.returned (.int .i64 0)) w7) := fun w7 hp7 => by
          obtain ⟨m7, h1, h2, h3, h4, h5⟩ := HP6.out.row hp7 fun f hf hp k hk => by
            rcases rins_mem hf with rfl | hf
            · exact .inl (.inr ⟨_, HFM.out, hp, hk⟩)
            · exact HP6.out.blk k (.inr ⟨f, hf, hp, hk⟩)
          refine ⟨by rw [HQ1.out, if_neg HNM.out, if_neg h0], m7, ?_, h1⟩
          rw [HQ1.out, if_neg HNM.out, if_neg h0]
          obtain ⟨a1, a2, a3, a4⟩ := HE4.out
          obtain ⟨b1, b2, b3, b4⟩ := HE5.out
          have e1 : m7.fs.map RF.pf = pins { (⟨nm, dt, la⟩ : PF) with name := tt } (pdel (pdel m.pfs key) tt) := by rw [h2, rins_pf, b1, rdel_pf, a1, rdel_pf, s1]
          show (⟨m7.room, m7.left, m7.down, m7.fs.map RF.pf⟩ : PD) = { pspend m.pd with files := pins { (⟨nm, dt, la⟩ : PF) with name := tt } (pdel (pdel m.pfs key) tt) }
          rw [e1, h3, h4, h5, b2, b3, b4, a2, a3, a4, ← rspend_pd m]
          rfl
        clear h52 h53 h54 h55 P5 hp5 HB6 HP2 HP3 HP4 HP5 HQ1 HE4 HE5
        go_wp2_with fail
        refine HPU.out.mono ?_
        clear HPU
        rintro e w7 ⟨rfl, hp7⟩
        have HZ := Lib.hid (HFIN.out w7 hp7)
        clear hp7 HFIN
        go_wp2_with fail
        go_ret
        exact HZ.out
  · rw [hd] at hq
    subst hq
    have HZ : Hid (REnd w base m r (.returned (.int .i64 3)) w) := REnd.same HR.out (by
      rw [HQ.out]
      exact pChange_down _ _ _ hd)
    go_wp2_with fail
    go_ret
    exact HZ.out
end Go.Proofs.YtokonhcphhpogaaDoor

namespace Go.Proofs.YtokonhcphhpogaaDoor
open Go.RowKit

theorem step_app {P : Program} {w : World} {ops : Array Oper} {o : Oper} {a : Act} {K : Act → World → Prop} {Q : Exit → Act → World → Prop} {E : Prop} (hgd : o.guard = none) (s x : Operand) (t : TypeId)
    (ho : o.op = .call { callee := .builtin .append, args := #[s, x], argTypes := #[t, t] })
    (base : Nat) (e : TypeId) (i : TypeInfo) (z : Value) (bytes : Nat) (ht : P.underlying t = some (.slice e)) (hi : P.info? e = some i) (hz : i.zero = some z)
    (hsize : i.size = 1) (hby : i.bytes = bytes) (hzs : z.cells.size = 1)
    (v : Value) (n : Nat) (xs : List Value) (hs : a.eval s = v) (hown : w.ownsRow base e 1 v n xs)
    (A : Option Addr) (c m : Nat) (news : List Value) (hx : a.eval x = .slice A m c) (hm : news.length = m) (hr : Rd w A news) (h1 : ∀ u ∈ news, u.oneCell' = true)
    (hA : A = none → c = 0)
    (h63 : n + m ≤ maxLen) (hbytes : (n + m) * bytes ≤ 140737488355328) (hbase : base ≤ w.heap.size)
    (h : ∀ v' w', w'.ownsRow base e 1 v' (n + m) (xs ++ news) → w.grownBy w' v.ownBlock → (v' = .slice none 0 0 ↔ v = .slice none 0 0 ∧ m = 0) → (v'.ownBlock = v.ownBlock ∨ v'.ownBlock = some w.heap.size) →
      K (a.put o.dst v') w') :
    if Region.wanted o (yielded ops a.tmps) = true then Oper.wp P o a w K Q else E := by
  have hw : Region.wanted o (yielded ops a.tmps) = true := by simp [Region.wanted, hgd]
  rw [if_pos hw]
  obtain ⟨v', w', hrun, h2, h3, h4, h5⟩ := run_app (P := P) w base t o.type e i z bytes ht hi hz hsize hby hzs v n xs hown A c m news hm hr h1 hA h63 hbytes hbase
  unfold Oper.wp execOp
  simp only [ho, resolve, invoke, builtin, Sem.run_bind, Sem.run_pure, Result.andThen_ok, List.map_toArray, List.map_cons, List.map_nil, hs, hx, hrun]
  exact h v' w' h2 h3 h4 h5
theorem quiet_left {P : Program} {f : FuncId} {args : Array Value} {w : World} {n : Nat} {v : Value}
    (h : Calls P f args (w.drewN n) fun e w' => e = .returned v ∧ w.drewN n = w') : Calls P f args (w.drewN n) fun e w'' => e = .returned v ∧ ∃ m, w'' = w.drewN m :=
  h.mono fun _ _ ⟨he, hm⟩ => ⟨he, n, hm.symm⟩
/-- one file of the row has turned, behind what was done before. -/
theorem RPost.turn {w0 w : World} {base : Nat} {m0 m : RM} (H : RPost w0 w base m0 m) {j : Nat} {f : RF} (hx : m.fs[j]? = some f) {b : Nat} (hA : m.FA = some ⟨b, 0, none⟩) (y : RF) (i : Nat) (hi : i < 3) (u : Value) (hu : (rfc f).set i u = rfc y)
    (hy : DOk w base y.A y.c y.pf.data) (hb : 0 < y.pf.data.length → ∀ k, ablk y.A k → m0.blk k ∨ w0.heap.size ≤ k) : RPost w0 (w.setCell ⟨b, j * 3 + i, none⟩ u) base m0 { m with fs := m.fs.set j y } := by
  obtain ⟨h1, h2⟩ := H.rin.turn hx hA y i hi u hu hy
  refine ⟨h1, H.g, H.fr.step h2 fun k hk hc => (H.own k hc).elim id fun h => by omega, fun k hk => H.own k hk, fun k hk => ?_⟩
  rcases hk with hk | ⟨g, hg, hp, hk⟩
  · exact H.blk k (.inl hk)
  · rcases List.mem_or_eq_of_mem_set hg with hg | rfl
    · exact H.blk k (.inr ⟨g, hg, hp, hk⟩)
    · exact hb hp k hk
theorem pins_perm (x : PF) (L : List PF) : (pins x L).Perm (x :: L) := by
  induction L with
  | nil => exact List.Perm.refl _
  | cons y r ih =>
    unfold pins
    split
    · exact List.Perm.refl _
    · exact (List.Perm.cons y ih).trans (List.Perm.swap x y r)
theorem pins_nodup {x : PF} {L : List PF} (hn : (L.map (·.name)).Nodup) (hx : pfind L x.name = none) : ((pins x L).map (·.name)).Nodup := by
  rw [((pins_perm x L).map (·.name)).nodup_iff, List.map_cons, List.nodup_cons]
  refine ⟨fun hm => ?_, hn⟩
  obtain ⟨f, hf⟩ := find_named hm
  rw [hx] at hf
  cases hf
theorem pins_find (x : PF) (L : List PF) : ∃ f, pfind (pins x L) x.name = some f := find_named (List.mem_map.2 ⟨x, (pins_perm x L).mem_iff.2 (List.mem_cons_self ..), rfl⟩)
theorem app_down {p : PD} (k d : Bs) (h : p.down = true) : pAppend p k d = (p, 3) := by unfold pAppend; rw [if_pos h]
theorem app_name {p : PD} {k : Bs} (d : Bs) (h : p.down = false) (hk : isNm k = false) : pAppend p k d = (p, 1) := by unfold pAppend; rw [h, if_neg (by decide), if_pos hk]
theorem app_full {p : PD} {k d : Bs} (h : p.down = false) (hk : isNm k = true) (hf : (pfind p.files k = none ∧ 32 ≤ p.files.length) ∨ p.room < ptotal p.files + d.length) : pAppend p k d = (p, 2) := by
  unfold pAppend; rw [h, if_neg (by decide), hk, if_neg (by decide), if_pos hf]
theorem app_put {p : PD} {k d : Bs} (h : p.down = false) (hk : isNm k = true) (hf : ¬ ((pfind p.files k = none ∧ 32 ≤ p.files.length) ∨ p.room < ptotal p.files + d.length)) : pAppend p k d = (pspend { p with files := pput p.files k d }, pspendE p) := by
  unfold pAppend; rw [h, if_neg (by decide), hk, if_neg (by decide), if_neg hf]

set_option maxRecDepth 100000 in
set_option maxHeartbeats 8000000 in
theorem rappend_any (w : World) (base : Nat) (m : RM) (h : RIn w base m) (ht : RFit m) (hb : base ≤ w.heap.size) (key : Bs) (hkl : key.length ≤ maxLen) (A : Option Addr) (c : Nat) (d : Bs) (hr : Rd w A (cb d)) (hAc : A = none → c = 0) (hdl : d.length ≤ 1048576)
    (hsafe : 0 < d.length → ∀ k, ablk A k → ¬ m.own k) :
    Calls Tryd.prog 43 #[.pointer (some ⟨m.g, 0, none⟩), .string (bstr key), .slice A d.length c] w (REnd w base m (pAppend m.pd key d)) := by
  obtain ⟨i0, hi, hz0, hz1, hz2⟩ := info_parts byteInfo
  have hl := ht.len
  have HAT := Lib.hid (rat_any w base m h key (by omega))
  have HR := Lib.hid h
  have HT := Lib.hid ht
  have HRD := Lib.hid hr
  have HAC := Lib.hid hAc
  have HSAFE := Lib.hid hsafe
  have hgl := h.bk.lt
  have hsz := bstr_size key
  have htot := ht.tot
  have hroom := ht.room
  obtain ⟨_, c1, _, c3⟩ := h.cell
  have c0 := h.cell.1
  have HUD : Hid (∀ n, Calls Tryd.prog 68 #[.pointer (some ⟨m.g, 0, none⟩)] (w.drewN n) fun e w' => e = .returned (.int .i64 (ptotal m.pfs)) ∧ w.drewN n = w') := fun n => rused_any (w.drewN n) base m (h.nofr ((Fr.refl _ _).drewN n)) (by omega) (by omega)
  obtain ⟨r, hr'⟩ : ∃ r, r = pAppend m.pd key d := ⟨_, rfl⟩
  have HQ := Lib.hid hr'
  rw [← hr']
  clear h ht hr hAc hsafe hr'
  unfold maxLen at hkl
  go_enter Tryd.func43, Tryd.ntmps43
  cases hd : m.down
  rotate_left
  · rw [hd] at c3
    have HZ : Hid (REnd w base m r (.returned (.int .i64 3)) w) := REnd.same HR.out (by rw [HQ.out]; exact app_down _ _ hd)
    go_wp2_with fail
    go_ret
    exact HZ.out
  rw [hd] at c3
  by_cases hn1 : key.length < 1
  · have HZ : Hid (REnd w base m r (.returned (.int .i64 1)) w) := REnd.same HR.out (by rw [HQ.out]; exact app_name _ hd (by unfold isNm; rw [decide_eq_false (by omega)]; rfl))
    have d1 : decide ((key.length : Int) < 1) = true := decide_eq_true (by omega)
    go_wp2_with fail
    go_ret
    exact HZ.out
  by_cases hn2 : 16 < key.length
  · have HZ : Hid (REnd w base m r (.returned (.int .i64 1)) w) := REnd.same HR.out (by rw [HQ.out]; exact app_name _ hd (by unfold isNm; rw [decide_eq_false (by omega : ¬ key.length ≤ 16), Bool.and_false]))
    have d1 : decide ((key.length : Int) < 1) = false := decide_eq_false (by omega)
    have d2 : decide ((16 : Int) < (key.length : Int)) = true := decide_eq_true (by omega)
    go_wp2_with fail
    go_ret
    exact HZ.out
  have HNM : Hid (isNm key = true) := by show _ = _; unfold isNm; rw [decide_eq_true (by omega : 1 ≤ key.length), decide_eq_true (by omega : key.length ≤ 16)]; rfl
  have d1 : decide ((key.length : Int) < 1) = false := decide_eq_false (by omega)
  have d2 : decide ((16 : Int) < (key.length : Int)) = false := decide_eq_false (by omega)
  go_wp2_with fail
  refine HAT.out.mono ?_
  clear HAT
  rintro e w1 ⟨⟨z, rfl, hz⟩, rfl⟩
  obtain ⟨tot, htt⟩ : ∃ tot, tot = ptotal m.pfs := ⟨_, rfl⟩
  have HTT := Lib.hid htt
  rw [← htt] at HUD htot
  clear htt
  have ew : IntKind.i64.wrap ((m.room : Int) - (tot : Int)) = (m.room : Int) - (tot : Int) := IntWalk.i64_in _ (by omega)
  have hpl : m.pfs.length = m.fs.length := List.length_map ..
  rcases hz with ⟨rfl, hn⟩ | ⟨j, f, rfl, hj, hk, hf⟩
  · by_cases h32 : 32 ≤ m.fs.length
    · have HZ : Hid (∀ n, REnd w base m r (.returned (.int .i64 2)) (w.drewN n)) := fun n => by
        have := REnd.same HR.out (r := r) (z := 2) (by rw [HQ.out]; exact app_full hd HNM.out (.inl ⟨hn, by show 32 ≤ m.pfs.length; rw [hpl]; exact h32⟩))
        obtain ⟨h1, m', h2, h3⟩ := this
        exact ⟨h1, m', h2, h3.more ((Fr.refl _ _).drewN n)⟩
      have d3 : decide ((m.fs.length : Int) < 32) = false := decide_eq_false (by omega)
      have d4 : decide ((32 : Int) ≤ (m.fs.length : Int)) = true := decide_eq_true (by omega)
      clear hn
      go_wp2_with fail
      go_quiet (fail)
      go_wp2_with fail
      go_ret
      exact HZ.out _
    · have d3 : decide ((m.fs.length : Int) < 32) = true := decide_eq_true (by omega)
      have d4 : decide ((32 : Int) ≤ (m.fs.length : Int)) = false := decide_eq_false (by omega)
      by_cases hful : m.room < tot + d.length
      · have HZ : Hid (∀ n, REnd w base m r (.returned (.int .i64 2)) (w.drewN n)) := fun n => by
          have := REnd.same HR.out (r := r) (z := 2) (by rw [HQ.out]; exact app_full hd HNM.out (.inr (by show m.room < ptotal m.pfs + d.length; rw [← HTT.out]; exact hful)))
          obtain ⟨h1, m', h2, h3⟩ := this
          exact ⟨h1, m', h2, h3.more ((Fr.refl _ _).drewN n)⟩
        have d5 : decide ((m.room : Int) - (tot : Int) < (d.length : Int)) = true := decide_eq_true (by omega)
        clear hn
        go_wp2_with fail
        go_quiet ((go_at_call 68; exact quiet_left (HUD.out _)))
        go_wp2_with fail
        go_ret
        exact HZ.out _
      · have HQ1 : Hid (r = (pspend { m.pd with files := pput m.pfs key d }, pspendE m.pd)) := by
          show _ = _
          rw [HQ.out]
          refine app_put hd HNM.out ?_
          rintro (⟨_, h2⟩ | h2)
          · exact h32 (by rw [← hpl]; exact h2)
          · exact hful (by rw [HTT.out]; exact h2)
        have d5 : decide ((m.room : Int) - (tot : Int) < (d.length : Int)) = false := decide_eq_false (by omega)
        have HNO := Lib.hid hn
        clear hn HQ
        go_wp2_with fail
        go_quiet ((go_at_call 68; exact quiet_left (HUD.out _)))
        have HFQ : Hid (Fr NoBlk w (w.drewN nq)) := (Fr.refl _ _).drewN nq
        have HRq := Lib.hid (HR.out.nofr HFQ.out)
        have HPU := Lib.hid (rput_any (w.drewN nq) base m HRq.out ⟨⟨key, [], 0⟩, none, 0⟩ (DOk.empty _ _) (by omega) (Nat.le_trans hb HFQ.out.size))
        unfold rfv st at HPU
        dsimp only at HPU
        have hgq : m.g < (w.drewN nq).heap.size := hgl
        clear c0 c1 c3 HUD
        generalize w.drewN nq = wq at *
        go_wp2_with fail
        refine HPU.out.mono ?_
        clear HPU
        rintro e w2 ⟨rfl, hp2⟩
        obtain ⟨m1, P2, h12, h13, h14, h15⟩ := ((RPost.refl HR.out).more HFQ.out).row hp2 fun f hf hp k hk => by
          rcases rins_mem hf with rfl | hf
          · exact absurd hp (by simp)
          · exact .inl (.inr ⟨f, hf, hp, hk⟩)
        have HP2 := Lib.hid P2
        have hpf : m1.pfs = pins ⟨key, [], 0⟩ m.pfs := by show m1.fs.map RF.pf = _; rw [h12, rins_pf]
        have hnd1 : (m1.pfs.map (·.name)).Nodup := by rw [hpf]; exact pins_nodup HT.out.nodup HNO.out
        have HM1 : Hid (m1.room = m.room ∧ m1.left = m.left ∧ m1.down = m.down) := ⟨h13, h14, h15⟩
        have hl1 : m1.fs.length ≤ 33 := by rw [h12, rins_len]; omega
        have HAT := Lib.hid (rat_any w2 base m1 HP2.out.rin key (by omega))
        have hgm1 : m1.g = m.g := HP2.out.g
        rw [hgm1] at HAT
        have HND := Lib.hid hnd1
        have HPF := Lib.hid hpf
        clear P2 h12 h13 h14 h15 hp2 hpf hnd1 hgq HRq
        go_wp2_with fail
        refine HAT.out.mono ?_
        clear HAT
        rintro e w2' ⟨⟨z, rfl, hz⟩, rfl⟩
        rcases hz with ⟨_, hn⟩ | ⟨j, f, rfl, hj, hk, hf⟩
        · obtain ⟨f, hf⟩ := pins_find ⟨key, [], 0⟩ m.pfs
          rw [HPF.out] at hn
          rw [hn] at hf
          cases hf
        obtain ⟨f1, hf1, hff⟩ : ∃ f1, m1.fs[j]? = some f1 ∧ f1.pf = f := by
          have hj2 : (m1.fs.map RF.pf)[j]? = some f := hj
          rw [List.getElem?_map] at hj2
          cases hg : m1.fs[j]? with
          | none => rw [hg] at hj2; cases hj2
          | some g => rw [hg] at hj2; injection hj2 with hj2; exact ⟨g, rfl, hj2⟩
        have HJ1 := Lib.hid hf1
        have HN1 : Hid (f1.pf.name = key) := by show _ = _; rw [hff]; exact hk
        have HPUT : Hid (pput m.pfs key d = m1.pfs.set j { f1.pf with data := f1.pf.data ++ d }) := by
          show _ = _
          unfold pput
          rw [HNO.out]
          show pset (pins ⟨key, [], 0⟩ m.pfs) key _ = _
          rw [← HPF.out, ← HN1.out]
          exact pset_at m1.pfs HND.out j f1.pf (by rw [hff]; exact hj) _
        have HDT : Hid (f1.pf.data.length ≤ 1048576) := by
          have h1 : f1.pf ∈ pins ⟨key, [], 0⟩ m.pfs := by rw [← HPF.out, hff]; exact List.mem_of_getElem? hj
          rcases List.mem_cons.1 ((pins_perm _ _).mem_iff.1 h1) with e | h1
          · rw [e]; show ([] : Bs).length ≤ _; simp
          · have := ptotal_mem h1
            have := HTT.out
            show _ ≤ _
            omega
        have hjn : ¬ ((j : Int) < 0) := by omega
        clear hj hk hf hf1 hff HND HPF HNO
        obtain ⟨b, hA, hne, q0, q1, q2, hfz⟩ := HP2.out.rin.file HJ1.out
        obtain ⟨_, c1, _, _⟩ := HP2.out.rin.cell
        have hg2 := HP2.out.rin.bk.lt
        have hgm : m1.g = m.g := HP2.out.g
        rw [hgm] at hg2 c1 hne
        rw [hA] at c1
        have HD := Lib.hid (HP2.out.rin.dat _ (List.mem_of_getElem? HJ1.out))
        have hjl := (List.getElem?_eq_some_iff.1 HJ1.out).1
        obtain ⟨⟨nm, dt, la⟩, fa, fc⟩ := f1
        obtain rfl : nm = key := HN1.out
        dsimp only at q0 q1 q2 HD HPUT
        have hdt : dt.length ≤ 1048576 := HDT.out
        have i0' : (0 : Int) ≤ (j : Int) := by omega
        have i1' : (j : Int) < (m1.fs.length : Int) := by omega
        have q1f := hfz (j * 3 + 1)
        have hbl : b < w2.heap.size := World.block_lt_of_cell? w2 _ q1
        have hbg : b ≠ m.g := hne
        have hb2 : base ≤ w2.heap.size := Nat.le_trans hb HP2.out.fr.size
        have HRD2 : Hid (Rd w2 A (cb d)) := HRD.out.fr' HP2.out.fr fun hp k hk hc => HSAFE.out (by rw [← cb_length]; exact hp) k hk hc
        have HFL : Hid (Fr NoBlk w2 (w2.drew.alloc (.cells #[] 5))) := ((Fr.refl _ _).drew).alloc _
        have HNEW : Hid ((w2.drew.alloc (.cells #[] 5)).ownsRow w2.heap.size 5 1 (.slice (some ⟨w2.heap.size, 0, none⟩) 0 0) 0 []) := World.ownsRow_made w2.drew #[] 0 (Nat.le_refl _) (by decide) rfl
        have HDL := Lib.hid (HD.out.nofr HFL.out)
        have HSL : Hid (w2.heap.size ≤ (w2.drew.alloc (.cells #[] 5)).heap.size) := HFL.out.size
        have kL : (w2.drew.alloc (.cells #[] 5)).cell? ⟨m.g, 1, none⟩ = some (.slice (some ⟨b, 0, none⟩) m1.fs.length m1.FC) := (HFL.out.cell (p := ⟨m.g, 1, none⟩) hg2 (fun h => h)).trans c1
        have qL : (w2.drew.alloc (.cells #[] 5)).cell? ⟨b, j * 3 + 1, none⟩ = some (.slice fa dt.length fc) := (HFL.out.cell (p := ⟨b, j * 3 + 1, none⟩) hbl (fun h => h)).trans q1
        have qD : w2.drew.cell? ⟨b, j * 3 + 1, none⟩ = some (.slice fa dt.length fc) := q1
        clear q0 q2 hfz hne
        go_wp2_with fail
        refine wp_region_held_drew (S := fun w' => w'.cell? ⟨m.g, 1, none⟩ = some (.slice (some ⟨b, 0, none⟩) m1.fs.length m1.FC)) (by kernel_rfl) (by exact c1) (fun hHeld => ?_)
        refine wpAnyH_take (i := 0) (oi := ⟨some 54, _, _, _, _, _⟩) (v := ?_) rfl (by kernel_rfl) (by kernel_rfl) (by kernel_rfl) (fun _ _ _ h => h) (Or.inl ⟨by rfl, ?_⟩) (by assumption) ?_
        rotate_left 1
        · (intro w hSw; (try dsimp only at hSw); go_simp) <;> (with_reducible rfl)
        try simp only [Act.put, List.setIfInBounds_toArray, List.set_cons_zero, List.set_cons_succ]
        refine wpAnyH_take (i := 1) (oi := ⟨some 55, _, _, _, _, _⟩) (v := ?_) rfl (by kernel_rfl) (by kernel_rfl) (by kernel_rfl) (fun _ _ _ h => h) (Or.inl ⟨by rfl, ?_⟩) (by assumption) ?_
        rotate_left 1
        · (intro w hSw; (try dsimp only at hSw); go_simp) <;> (with_reducible rfl)
        try simp only [Act.put, List.setIfInBounds_toArray, List.set_cons_zero, List.set_cons_succ]
        refine wpAnyH_take (i := 2) (oi := ⟨some 56, _, _, _, _, _⟩) (v := ?_) rfl (by kernel_rfl) (by kernel_rfl) (by kernel_rfl) (fun _ _ _ h => h) (Or.inl ⟨by rfl, ?_⟩) (by assumption) ?_
        rotate_left 1
        · (intro w hSw; (try dsimp only at hSw); go_simp) <;> (with_reducible rfl)
        try simp only [Act.put, List.setIfInBounds_toArray, List.set_cons_zero, List.set_cons_succ]
        refine wpAnyH_take (i := 3) (oi := ⟨some 57, _, _, _, _, _⟩) (v := ?_) rfl (by kernel_rfl) (by kernel_rfl) (by kernel_rfl) (fun _ _ _ h => h) (Or.inl ⟨by rfl, ?_⟩) (by assumption) ?_
        rotate_left 1
        · (intro w hSw; (try dsimp only at hSw); go_simp) <;> (with_reducible rfl)
        try simp only [Act.put, List.setIfInBounds_toArray, List.set_cons_zero, List.set_cons_succ]
        refine wpAnyH_take (i := 4) (oi := ⟨some 58, _, _, _, _, _⟩) (v := ?_) rfl (by kernel_rfl) (by kernel_rfl) (by kernel_rfl) (fun _ _ _ h => h) (Or.inl ⟨by rfl, ?_⟩) (by assumption) ?_
        rotate_left 1
        · (intro w hSw; (try dsimp only at hSw); go_simp) <;> (with_reducible rfl)
        try simp only [Act.put, List.setIfInBounds_toArray, List.set_cons_zero, List.set_cons_succ]
        refine wpAnyH_take (i := 6) (oi := ⟨some 60, _, _, _, _, _⟩) (v := ?_) rfl (by kernel_rfl) (by kernel_rfl) (by kernel_rfl) (fun _ _ _ h => h) (Or.inl ⟨by rfl, ?_⟩) (by assumption) ?_
        rotate_left 1
        · (intro w hSw; (try dsimp only at hSw); go_simp) <;> (with_reducible rfl)
        try simp only [Act.put, List.setIfInBounds_toArray, List.set_cons_zero, List.set_cons_succ]
        refine wpAnyH_take (i := 7) (oi := ⟨some 61, _, _, _, _, _⟩) (v := ?_) rfl (by kernel_rfl) (by kernel_rfl) (by kernel_rfl) (fun _ _ _ h => h) (Or.inl ⟨by rfl, ?_⟩) (by assumption) ?_
        rotate_left 1
        · (intro w hSw; (try dsimp only at hSw); go_simp) <;> (with_reducible rfl)
        try simp only [Act.put, List.setIfInBounds_toArray, List.set_cons_zero, List.set_cons_succ]
        refine wpAnyH_take (i := 8) (oi := ⟨some 62, _, _, _, _, _⟩) (v := ?_) rfl (by kernel_rfl) (by kernel_rfl) (by kernel_rfl) (fun _ _ _ h => h) (Or.inl ⟨by rfl, ?_⟩) (by assumption) ?_
        rotate_left 1
        · (intro w hSw; (try dsimp only at hSw); go_simp) <;> (with_reducible rfl)
        try simp only [Act.put, List.setIfInBounds_toArray, List.set_cons_zero, List.set_cons_succ]
        refine wpAnyH_take (i := 9) (oi := ⟨some 63, _, _, _, _, _⟩) (v := ?_) rfl (by kernel_rfl) (by kernel_rfl) (by kernel_rfl) (fun _ _ _ h => h) (Or.inl ⟨by rfl, ?_⟩) (by assumption) ?_
        rotate_left 1
        · (intro w hSw; (try dsimp only at hSw); go_simp) <;> (with_reducible rfl)
        try simp only [Act.put, List.setIfInBounds_toArray, List.set_cons_zero, List.set_cons_succ]
        refine wpAnyH_take (i := 10) (oi := ⟨some 64, _, _, _, _, _⟩) (v := ?_) rfl (by kernel_rfl) (by kernel_rfl) (by kernel_rfl) (fun _ _ _ h => h) (Or.inl ⟨by rfl, ?_⟩) (by assumption) ?_
        rotate_left 1
        · (intro w hSw; (try dsimp only at hSw); go_simp) <;> (with_reducible rfl)
        try simp only [Act.put, List.setIfInBounds_toArray, List.set_cons_zero, List.set_cons_succ]
        refine wpAnyH_take (i := 11) (oi := ⟨some 65, _, _, _, _, _⟩) (v := ?_) rfl (by kernel_rfl) (by kernel_rfl) (by kernel_rfl) (fun _ _ _ h => h) (Or.inl ⟨by rfl, ?_⟩) (by assumption) ?_
        rotate_left 1
        · (intro w hSw; (try dsimp only at hSw); go_simp) <;> (with_reducible rfl)
        try simp only [Act.put, List.setIfInBounds_toArray, List.set_cons_zero, List.set_cons_succ]
        refine wpAnyH_take (i := 12) (oi := ⟨some 66, _, _, _, _, _⟩) (v := ?_) rfl (by kernel_rfl) (by kernel_rfl) (by kernel_rfl) (fun _ _ _ h => h) (Or.inl ⟨by rfl, ?_⟩) (by assumption) ?_
        rotate_left 1
        · (intro w hSw; (try dsimp only at hSw); go_simp) <;> (with_reducible rfl)
        try simp only [Act.put, List.setIfInBounds_toArray, List.set_cons_zero, List.set_cons_succ]
        refine wpAnyH_take (i := 15) (oi := ⟨some 69, _, _, _, _, _⟩) (v := ?_) rfl (by kernel_rfl) (by kernel_rfl) (by kernel_rfl) (fun _ _ _ h => h) (Or.inl ⟨by rfl, ?_⟩) (by assumption) ?_
        rotate_left 1
        · (intro w hSw; (try dsimp only at hSw); go_simp) <;> (with_reducible rfl)
        try simp only [Act.put, List.setIfInBounds_toArray, List.set_cons_zero, List.set_cons_succ]
        refine wpAnyH_ready (rs := [5, 13]) (by kernel_rfl) (by simp) ?_
        refine AllReadyH.cons (o := ⟨some 59, _, _, _, _, _⟩) rfl (fun K hK => ?_) (AllReadyH.cons (o := ⟨some 67, _, _, _, _, _⟩) rfl (fun K hK => ?_) AllReadyH.nil)
        · go_simp
          refine hK.out _ _ ?_ (fun hHeld => ?_)
          · exact kL
          clear hK K
          try simp only [Act.put, List.setIfInBounds_toArray, List.set_cons_zero, List.set_cons_succ]
          refine wpAnyH_ready (rs := [13]) (by kernel_rfl) (by simp) ?_
          refine AllReadyH.cons (o := ⟨some 67, _, _, _, _, _⟩) rfl (fun K hK => ?_) AllReadyH.nil
          go_simp
          refine hK.out _ _ ?_ (fun hHeld => ?_)
          · exact kL
          clear hK K
          try simp only [Act.put, List.setIfInBounds_toArray, List.set_cons_zero, List.set_cons_succ]
          refine wpAnyH_ready (rs := [14]) (by kernel_rfl) (by simp) ?_
          refine AllReadyH.cons (o := ⟨some 68, _, _, _, _, _⟩) rfl (fun K hK => ?_) AllReadyH.nil
          refine step_app rfl _ _ 22 rfl w2.heap.size 5 i0 (.int .u8 0) 1 Tryd.underlying22 hi hz0 hz1 hz2 rfl (.slice (some ⟨w2.heap.size, 0, none⟩) 0 0) 0 [] rfl HNEW.out fa fc dt.length (cb dt) rfl (cb_length _) HDL.out.rd (cb_one _) HDL.out.nil (by unfold maxLen; omega) (by omega) HSL.out ?_
          intro v4 w4 ho4 hg4 _ _
          rw [Nat.zero_add, List.nil_append] at ho4
          obtain ⟨A4, c4, rfl, hc4, hA4⟩ := own_form ho4
          have HF4 : Hid (Fr NoBlk w2 w4) := HFL.out.grown hg4 (fun k hk hlt => by
            have hk' : some w2.heap.size = some k := hk
            injection hk' with hk'
            omega)
          have HO4 := Lib.hid ho4
          have k4 : w4.cell? ⟨m.g, 1, none⟩ = some (.slice (some ⟨b, 0, none⟩) m1.fs.length m1.FC) := (HF4.out.cell (p := ⟨m.g, 1, none⟩) hg2 (fun h => h)).trans c1
          have HRD4 := Lib.hid (HRD2.out.nofr HF4.out)
          have HSZ4 : Hid (w2.heap.size ≤ w4.heap.size) := HF4.out.size
          clear ho4 hg4 hc4 hA4
          refine hK.out _ _ ?_ (fun hHeld => ?_)
          · exact k4
          clear hK K
          try simp only [Act.put, List.setIfInBounds_toArray, List.set_cons_zero, List.set_cons_succ]
          refine wpAnyH_ready (rs := [16]) (by kernel_rfl) (by simp) ?_
          refine AllReadyH.cons (o := ⟨some 70, _, _, _, _, _⟩) rfl (fun K hK => ?_) AllReadyH.nil
          refine step_app rfl _ _ 22 rfl w2.heap.size 5 i0 (.int .u8 0) 1 Tryd.underlying22 hi hz0 hz1 hz2 rfl (.slice A4 dt.length c4) dt.length (cb dt) rfl HO4.out A c d.length (cb d) rfl (cb_length _) HRD4.out (cb_one _) HAC.out (by unfold maxLen; omega) (by omega) HSZ4.out ?_
          intro v5 w5 ho5 hg5 _ _
          obtain ⟨A5, c5, rfl, hc5, hA5⟩ := own_form ho5
          have HF5 : Hid (Fr NoBlk w2 w5) := HF4.out.grown hg5 (fun k hk hlt => by
            have := (own_lt HO4.out hk).1
            omega)
          have HO5 := Lib.hid ho5
          have k5 : w5.cell? ⟨m.g, 1, none⟩ = some (.slice (some ⟨b, 0, none⟩) m1.fs.length m1.FC) := (HF5.out.cell (p := ⟨m.g, 1, none⟩) hg2 (fun h => h)).trans c1
          have q5 : w5.cell? ⟨b, j * 3 + 1, none⟩ = some (.slice fa dt.length fc) := (HF5.out.cell (p := ⟨b, j * 3 + 1, none⟩) hbl (fun h => h)).trans q1
          have q5f : w5.frozen? ⟨b, j * 3 + 1, none⟩ = false := (HF5.out.frozen (p := ⟨b, j * 3 + 1, none⟩) hbl (fun h => h)).trans q1f
          have k6 : (w5.setCell ⟨b, j * 3 + 1, none⟩ (.slice A5 (dt.length + d.length) c5)).cell? ⟨m.g, 1, none⟩ = some (.slice (some ⟨b, 0, none⟩) m1.fs.length m1.FC) := by
            rw [World.cell?_setCell_far _ _ _ _ hbg]; exact k5
          have k4 := k5
          clear ho5 hg5 hc5 hA5
          refine hK.out _ _ ?_ (fun hHeld => ?_)
          · exact k4
          clear hK K
          try simp only [Act.put, List.setIfInBounds_toArray, List.set_cons_zero, List.set_cons_succ]
          refine wpAnyH_take (i := 17) (oi := ⟨some 71, _, _, _, _, _⟩) (v := ?_) rfl (by kernel_rfl) (by kernel_rfl) (by kernel_rfl) (fun _ _ _ h => h) (Or.inl ⟨by rfl, ?_⟩) (by assumption) ?_
          rotate_left 1
          · (intro w hSw; (try dsimp only at hSw); go_simp) <;> (with_reducible rfl)
          try simp only [Act.put, List.setIfInBounds_toArray, List.set_cons_zero, List.set_cons_succ]
          refine wpAnyH_take (i := 18) (oi := ⟨some 72, _, _, _, _, _⟩) (v := ?_) rfl (by kernel_rfl) (by kernel_rfl) (by kernel_rfl) (fun _ _ _ h => h) (Or.inl ⟨by rfl, ?_⟩) (by assumption) ?_
          rotate_left 1
          · (intro w hSw; (try dsimp only at hSw); go_simp) <;> (with_reducible rfl)
          try simp only [Act.put, List.setIfInBounds_toArray, List.set_cons_zero, List.set_cons_succ]
          refine wpAnyH_ready (rs := [19]) (by kernel_rfl) (by simp) ?_
          refine AllReadyH.cons (o := ⟨none, _, _, _, _, _⟩) rfl (fun K hK => ?_) AllReadyH.nil
          go_simp
          refine hK.out _ _ ?_ (fun hHeld => ?_)
          · exact k6
          clear hK K
          try simp only [Act.put, List.setIfInBounds_toArray, List.set_cons_zero, List.set_cons_succ]
          refine wpAnyH_done (by kernel_rfl) ?_ _
          have hlen5 : (dt ++ d).length = dt.length + d.length := List.length_append
          have HDY : Hid (DOk w5 base A5 c5 (dt ++ d)) := DOk.ofOwn (n := dt.length + d.length) (own_base (by rw [cb_append]; exact HO5.out) hb2) hlen5.symm
          have P6 := (HP2.out.more HF5.out).turn HJ1.out hA ⟨⟨nm, dt ++ d, la⟩, A5, c5⟩ 1 (by omega) (.slice A5 (dt.length + d.length) c5) (by show [_, _, _] = [_, Value.slice A5 (dt ++ d).length c5, _]; rw [hlen5]) HDY.out (fun hp k hk => .inr (by
            have hk' := (own_abl HO5.out hk).1
            have := HP2.out.fr.size
            omega))
          obtain ⟨m2, hm2⟩ : ∃ m2 : RM, m2 = { m1 with fs := m1.fs.set j ⟨⟨nm, dt ++ d, la⟩, A5, c5⟩ } := ⟨_, rfl⟩
          rw [← hm2] at P6
          have e21 : m2.left = m1.left := by rw [hm2]
          have e22 : m2.g = m.g := P6.g
          have HUS := Lib.hid (ruse_any _ base m2 P6.rin (by rw [e21, HM1.out.2.1]; exact HT.out.left))
          rw [e22, e21] at HUS
          have HFIN : Hid (∀ w7, RPost (w5.setCell ⟨b, j * 3 + 1, none⟩ (.slice A5 (dt.length + d.length) c5)) w7 base m2 (rspend m2) → REnd w base m r (.returned (.int .i64 (if m1.left = 0 then 3 else 0))) w7) := fun w7 hp7 => by
            refine ⟨?_, _, ?_, P6.trans hp7⟩
            · rw [HQ1.out]
              show _ = Ending.returned (.int .i64 (if m.left = 0 then 3 else 0))
              rw [HM1.out.2.1]
            · rw [HQ1.out, rspend_pd, hm2]
              show pspend (⟨m1.room, m1.left, m1.down, (m1.fs.set j _).map RF.pf⟩ : PD) = pspend ⟨m.room, m.left, m.down, _⟩
              rw [HM1.out.1, HM1.out.2.1, HM1.out.2.2, List.map_set, ← HPUT.out]
          clear hm2 e21 e22
          clear P6 HP2 HQ1 HDY HF4 HF5 HO4 HO5 HRD4 HSZ4 HDL HNEW HSL HFL HPUT
          by_cases h0 : m1.left = 0
          · rw [if_pos h0] at HFIN
            have e0 : decide (m1.left = 0) = true := decide_eq_true h0
            rw [e0] at HUS
            clear e0 h0
            go_wp2_with fail
            refine HUS.out.mono ?_
            clear HUS
            rintro e w7 ⟨rfl, hp7⟩
            have HZ := Lib.hid (HFIN.out w7 hp7)
            clear hp7 HFIN
            go_wp2_with fail
            go_ret
            exact HZ.out
          · rw [if_neg h0] at HFIN
            have e0 : decide (m1.left = 0) = false := decide_eq_false h0
            rw [e0] at HUS
            clear e0 h0
            go_wp2_with fail
            refine HUS.out.mono ?_
            clear HUS
            rintro e w7 ⟨rfl, hp7⟩
            have HZ := Lib.hid (HFIN.out w7 hp7)
            clear hp7 HFIN
            go_wp2_with fail
            go_ret
            exact HZ.out
        · go_simp
          refine hK.out _ _ ?_ (fun hHeld => ?_)
          · exact c1
          clear hK K
          try simp only [Act.put, List.setIfInBounds_toArray, List.set_cons_zero, List.set_cons_succ]
          refine wpAnyH_ready (rs := [5]) (by kernel_rfl) (by simp) ?_
          refine AllReadyH.cons (o := ⟨some 59, _, _, _, _, _⟩) rfl (fun K hK => ?_) AllReadyH.nil
          go_simp
          refine hK.out _ _ ?_ (fun hHeld => ?_)
          · exact kL
          clear hK K
          try simp only [Act.put, List.setIfInBounds_toArray, List.set_cons_zero, List.set_cons_succ]
          refine wpAnyH_ready (rs := [14]) (by kernel_rfl) (by simp) ?_
          refine AllReadyH.cons (o := ⟨some 68, _, _, _, _, _⟩) rfl (fun K hK => ?_) AllReadyH.nil
          refine step_app rfl _ _ 22 rfl w2.heap.size 5 i0 (.int .u8 0) 1 Tryd.underlying22 hi hz0 hz1 hz2 rfl (.slice (some ⟨w2.heap.size, 0, none⟩) 0 0) 0 [] rfl HNEW.out fa fc dt.length (cb dt) rfl (cb_length _) HDL.out.rd (cb_one _) HDL.out.nil (by unfold maxLen; omega) (by omega) HSL.out ?_
          intro v4 w4 ho4 hg4 _ _
          rw [Nat.zero_add, List.nil_append] at ho4
          obtain ⟨A4, c4, rfl, hc4, hA4⟩ := own_form ho4
          have HF4 : Hid (Fr NoBlk w2 w4) := HFL.out.grown hg4 (fun k hk hlt => by
            have hk' : some w2.heap.size = some k := hk
            injection hk' with hk'
            omega)
          have HO4 := Lib.hid ho4
          have k4 : w4.cell? ⟨m.g, 1, none⟩ = some (.slice (some ⟨b, 0, none⟩) m1.fs.length m1.FC) := (HF4.out.cell (p := ⟨m.g, 1, none⟩) hg2 (fun h => h)).trans c1
          have HRD4 := Lib.hid (HRD2.out.nofr HF4.out)
          have HSZ4 : Hid (w2.heap.size ≤ w4.heap.size) := HF4.out.size
          clear ho4 hg4 hc4 hA4
          refine hK.out _ _ ?_ (fun hHeld => ?_)
          · exact k4
          clear hK K
          try simp only [Act.put, List.setIfInBounds_toArray, List.set_cons_zero, List.set_cons_succ]
          refine wpAnyH_ready (rs := [16]) (by kernel_rfl) (by simp) ?_
          refine AllReadyH.cons (o := ⟨some 70, _, _, _, _, _⟩) rfl (fun K hK => ?_) AllReadyH.nil
          refine step_app rfl _ _ 22 rfl w2.heap.size 5 i0 (.int .u8 0) 1 Tryd.underlying22 hi hz0 hz1 hz2 rfl (.slice A4 dt.length c4) dt.length (cb dt) rfl HO4.out A c d.length (cb d) rfl (cb_length _) HRD4.out (cb_one _) HAC.out (by unfold maxLen; omega) (by omega) HSZ4.out ?_
          intro v5 w5 ho5 hg5 _ _
          obtain ⟨A5, c5, rfl, hc5, hA5⟩ := own_form ho5
          have HF5 : Hid (Fr NoBlk w2 w5) := HF4.out.grown hg5 (fun k hk hlt => by
            have := (own_lt HO4.out hk).1
            omega)
          have HO5 := Lib.hid ho5
          have k5 : w5.cell? ⟨m.g, 1, none⟩ = some (.slice (some ⟨b, 0, none⟩) m1.fs.length m1.FC) := (HF5.out.cell (p := ⟨m.g, 1, none⟩) hg2 (fun h => h)).trans c1
          have q5 : w5.cell? ⟨b, j * 3 + 1, none⟩ = some (.slice fa dt.length fc) := (HF5.out.cell (p := ⟨b, j * 3 + 1, none⟩) hbl (fun h => h)).trans q1
          have q5f : w5.frozen? ⟨b, j * 3 + 1, none⟩ = false := (HF5.out.frozen (p := ⟨b, j * 3 + 1, none⟩) hbl (fun h => h)).trans q1f
          have k6 : (w5.setCell ⟨b, j * 3 + 1, none⟩ (.slice A5 (dt.length + d.length) c5)).cell? ⟨m.g, 1, none⟩ = some (.slice (some ⟨b, 0, none⟩) m1.fs.length m1.FC) := by
            rw [World.cell?_setCell_far _ _ _ _ hbg]; exact k5
          have k4 := k5
          clear ho5 hg5 hc5 hA5
          refine hK.out _ _ ?_ (fun hHeld => ?_)
          · exact k4
          clear hK K
          try simp only [Act.put, List.setIfInBounds_toArray, List.set_cons_zero, List.set_cons_succ]
          refine wpAnyH_take (i := 17) (oi := ⟨some 71, _, _, _, _, _⟩) (v := ?_) rfl (by kernel_rfl) (by kernel_rfl) (by kernel_rfl) (fun _ _ _ h => h) (Or.inl ⟨by rfl, ?_⟩) (by assumption) ?_
          rotate_left 1
          · (intro w hSw; (try dsimp only at hSw); go_simp) <;> (with_reducible rfl)
          try simp only [Act.put, List.setIfInBounds_toArray, List.set_cons_zero, List.set_cons_succ]
          refine wpAnyH_take (i := 18) (oi := ⟨some 72, _, _, _, _, _⟩) (v := ?_) rfl (by kernel_rfl) (by kernel_rfl) (by kernel_rfl) (fun _ _ _ h => h) (Or.inl ⟨by rfl, ?_⟩) (by assumption) ?_
          rotate_left 1
          · (intro w hSw; (try dsimp only at hSw); go_simp) <;> (with_reducible rfl)
          try simp only [Act.put, List.setIfInBounds_toArray, List.set_cons_zero, List.set_cons_succ]
          refine wpAnyH_ready (rs := [19]) (by kernel_rfl) (by simp) ?_
          refine AllReadyH.cons (o := ⟨none, _, _, _, _, _⟩) rfl (fun K hK => ?_) AllReadyH.nil
          go_simp
          refine hK.out _ _ ?_ (fun hHeld => ?_)
          · exact k6
          clear hK K
          try simp only [Act.put, List.setIfInBounds_toArray, List.set_cons_zero, List.set_cons_succ]
          refine wpAnyH_done (by kernel_rfl) ?_ _
          have hlen5 : (dt ++ d).length = dt.length + d.length := List.length_append
          have HDY : Hid (DOk w5 base A5 c5 (dt ++ d)) := DOk.ofOwn (n := dt.length + d.length) (own_base (by rw [cb_append]; exact HO5.out) hb2) hlen5.symm
          have P6 := (HP2.out.more HF5.out).turn HJ1.out hA ⟨⟨nm, dt ++ d, la⟩, A5, c5⟩ 1 (by omega) (.slice A5 (dt.length + d.length) c5) (by show [_, _, _] = [_, Value.slice A5 (dt ++ d).length c5, _]; rw [hlen5]) HDY.out (fun hp k hk => .inr (by
            have hk' := (own_abl HO5.out hk).1
            have := HP2.out.fr.size
            omega))
          obtain ⟨m2, hm2⟩ : ∃ m2 : RM, m2 = { m1 with fs := m1.fs.set j ⟨⟨nm, dt ++ d, la⟩, A5, c5⟩ } := ⟨_, rfl⟩
          rw [← hm2] at P6
          have e21 : m2.left = m1.left := by rw [hm2]
          have e22 : m2.g = m.g := P6.g
          have HUS := Lib.hid (ruse_any _ base m2 P6.rin (by rw [e21, HM1.out.2.1]; exact HT.out.left))
          rw [e22, e21] at HUS
          have HFIN : Hid (∀ w7, RPost (w5.setCell ⟨b, j * 3 + 1, none⟩ (.slice A5 (dt.length + d.length) c5)) w7 base m2 (rspend m2) → REnd w base m r (.returned (.int .i64 (if m1.left = 0 then 3 else 0))) w7) := fun w7 hp7 => by
            refine ⟨?_, _, ?_, P6.trans hp7⟩
            · rw [HQ1.out]
              show _ = Ending.returned (.int .i64 (if m.left = 0 then 3 else 0))
              rw [HM1.out.2.1]
            · rw [HQ1.out, rspend_pd, hm2]
              show pspend (⟨m1.room, m1.left, m1.down, (m1.fs.set j _).map RF.pf⟩ : PD) = pspend ⟨m.room, m.left, m.down, _⟩
              rw [HM1.out.1, HM1.out.2.1, HM1.out.2.2, List.map_set, ← HPUT.out]
          clear hm2 e21 e22
          clear P6 HP2 HQ1 HDY HF4 HF5 HO4 HO5 HRD4 HSZ4 HDL HNEW HSL HFL HPUT
          by_cases h0 : m1.left = 0
          · rw [if_pos h0] at HFIN
            have e0 : decide (m1.left = 0) = true := decide_eq_true h0
            rw [e0] at HUS
            clear e0 h0
            go_wp2_with fail
            refine HUS.out.mono ?_
            clear HUS
            rintro e w7 ⟨rfl, hp7⟩
            have HZ := Lib.hid (HFIN.out w7 hp7)
            clear hp7 HFIN
            go_wp2_with fail
            go_ret
            exact HZ.out
          · rw [if_neg h0] at HFIN
            have e0 : decide (m1.left = 0) = false := decide_eq_false h0
            rw [e0] at HUS
            clear e0 h0
            go_wp2_with fail
            refine HUS.out.mono ?_
            clear HUS
            rintro e w7 ⟨rfl, hp7⟩
            have HZ := Lib.hid (HFIN.out w7 hp7)
            clear hp7 HFIN
            go_wp2_with fail
            go_ret
            exact HZ.out
  · by_cases hful : m.room < tot + d.length
    · have HZ : Hid (∀ n, REnd w base m r (.returned (.int .i64 2)) (w.drewN n)) := fun n => by
        have := REnd.same HR.out (r := r) (z := 2) (by rw [HQ.out]; exact app_full hd HNM.out (.inr (by show m.room < ptotal m.pfs + d.length; rw [← HTT.out]; exact hful)))
        obtain ⟨h1, m', h2, h3⟩ := this
        exact ⟨h1, m', h2, h3.more ((Fr.refl _ _).drewN n)⟩
      have d5 : decide ((m.room : Int) - (tot : Int) < (d.length : Int)) = true := decide_eq_true (by omega)
      have d6 : decide ((j : Int) < 0) = false := decide_eq_false (by omega)
      clear hj hk hf
      go_wp2_with fail
      go_quiet ((go_at_call 68; exact quiet_left (HUD.out _)))
      go_wp2_with fail
      go_ret
      exact HZ.out _
    · have HQ1 : Hid (r = (pspend { m.pd with files := pput m.pfs key d }, pspendE m.pd)) := by
        show _ = _
        rw [HQ.out]
        refine app_put hd HNM.out ?_
        rintro (⟨h2, _⟩ | h2)
        · have h3 : pfind m.pfs key = none := h2
          rw [hf] at h3
          cases h3
        · exact hful (by rw [HTT.out]; exact h2)
      have d5 : decide ((m.room : Int) - (tot : Int) < (d.length : Int)) = false := decide_eq_false (by omega)
      have d6 : decide ((j : Int) < 0) = false := decide_eq_false (by omega)
      obtain ⟨f1, hf1, hff⟩ : ∃ f1, m.fs[j]? = some f1 ∧ f1.pf = f := by
        have hj2 : (m.fs.map RF.pf)[j]? = some f := hj
        rw [List.getElem?_map] at hj2
        cases hg : m.fs[j]? with
        | none => rw [hg] at hj2; cases hj2
        | some g => rw [hg] at hj2; injection hj2 with hj2; exact ⟨g, rfl, hj2⟩
      have HN1 : Hid (f1.pf.name = key) := by show _ = _; rw [hff]; exact hk
      have HPUT : Hid (pput m.pfs key d = m.pfs.set j { f1.pf with data := f1.pf.data ++ d }) := by
        show _ = _
        unfold pput
        rw [hf]
        show pset m.pfs key _ = _
        rw [← HN1.out]
        exact pset_at m.pfs HT.out.nodup j f1.pf (by rw [hff]; exact hj) _
      have HDT : Hid (f1.pf.data.length ≤ 1048576) := by
        have h1 : f1.pf ∈ m.pfs := by rw [hff]; exact List.mem_of_getElem? hj
        have := ptotal_mem h1
        have := HTT.out
        show _ ≤ _
        omega
      have HJ0 := Lib.hid hf1
      clear hj hk hf hff hf1
      go_wp2_with fail
      go_quiet ((go_at_call 68; exact quiet_left (HUD.out _)))
      have HP2 : Hid (RPost w (w.drewN nq) base m m) := (RPost.refl HR.out).more ((Fr.refl _ _).drewN nq)
      clear HUD c0 c1 c3
      generalize w.drewN nq = w2 at *
      obtain ⟨m1, hm1⟩ : ∃ m1, m1 = m := ⟨_, rfl⟩
      have HM1 : Hid (m1.room = m.room ∧ m1.left = m.left ∧ m1.down = m.down) := by rw [hm1]; exact ⟨rfl, rfl, rfl⟩
      have HJ1 : Hid (m1.fs[j]? = some f1) := by rw [hm1]; exact HJ0.out
      have HPUT2 : Hid (pput m.pfs key d = m1.pfs.set j { f1.pf with data := f1.pf.data ++ d }) := by rw [hm1]; exact HPUT.out
      have HP22 : Hid (RPost w w2 base m m1) := by rw [hm1]; exact HP2.out
      clear HP2 HPUT HJ0 hm1
      have HP2 := HP22
      have HPUT := HPUT2
      clear HP22 HPUT2
      have hjn : ¬ ((j : Int) < 0) := by omega
      · skip
        obtain ⟨b, hA, hne, q0, q1, q2, hfz⟩ := HP2.out.rin.file HJ1.out
        obtain ⟨_, c1, _, _⟩ := HP2.out.rin.cell
        have hg2 := HP2.out.rin.bk.lt
        have hgm : m1.g = m.g := HP2.out.g
        rw [hgm] at hg2 c1 hne
        rw [hA] at c1
        have HD := Lib.hid (HP2.out.rin.dat _ (List.mem_of_getElem? HJ1.out))
        have hjl := (List.getElem?_eq_some_iff.1 HJ1.out).1
        obtain ⟨⟨nm, dt, la⟩, fa, fc⟩ := f1
        obtain rfl : nm = key := HN1.out
        dsimp only at q0 q1 q2 HD HPUT
        have hdt : dt.length ≤ 1048576 := HDT.out
        have i0' : (0 : Int) ≤ (j : Int) := by omega
        have i1' : (j : Int) < (m1.fs.length : Int) := by omega
        have q1f := hfz (j * 3 + 1)
        have hbl : b < w2.heap.size := World.block_lt_of_cell? w2 _ q1
        have hbg : b ≠ m.g := hne
        have hb2 : base ≤ w2.heap.size := Nat.le_trans hb HP2.out.fr.size
        have HRD2 : Hid (Rd w2 A (cb d)) := HRD.out.fr' HP2.out.fr fun hp k hk hc => HSAFE.out (by rw [← cb_length]; exact hp) k hk hc
        have HFL : Hid (Fr NoBlk w2 (w2.drew.alloc (.cells #[] 5))) := ((Fr.refl _ _).drew).alloc _
        have HNEW : Hid ((w2.drew.alloc (.cells #[] 5)).ownsRow w2.heap.size 5 1 (.slice (some ⟨w2.heap.size, 0, none⟩) 0 0) 0 []) := World.ownsRow_made w2.drew #[] 0 (Nat.le_refl _) (by decide) rfl
        have HDL := Lib.hid (HD.out.nofr HFL.out)
        have HSL : Hid (w2.heap.size ≤ (w2.drew.alloc (.cells #[] 5)).heap.size) := HFL.out.size
        have kL : (w2.drew.alloc (.cells #[] 5)).cell? ⟨m.g, 1, none⟩ = some (.slice (some ⟨b, 0, none⟩) m1.fs.length m1.FC) := (HFL.out.cell (p := ⟨m.g, 1, none⟩) hg2 (fun h => h)).trans c1
        have qL : (w2.drew.alloc (.cells #[] 5)).cell? ⟨b, j * 3 + 1, none⟩ = some (.slice fa dt.length fc) := (HFL.out.cell (p := ⟨b, j * 3 + 1, none⟩) hbl (fun h => h)).trans q1
        have qD : w2.drew.cell? ⟨b, j * 3 + 1, none⟩ = some (.slice fa dt.length fc) := q1
        clear q0 q2 hfz hne
        go_wp2_with fail
        refine wp_region_held_drew (S := fun w' => w'.cell? ⟨m.g, 1, none⟩ = some (.slice (some ⟨b, 0, none⟩) m1.fs.length m1.FC)) (by kernel_rfl) (by exact c1) (fun hHeld => ?_)
        refine wpAnyH_take (i := 0) (oi := ⟨some 54, _, _, _, _, _⟩) (v := ?_) rfl (by kernel_rfl) (by kernel_rfl) (by kernel_rfl) (fun _ _ _ h => h) (Or.inl ⟨by rfl, ?_⟩) (by assumption) ?_
        rotate_left 1
        · (intro w hSw; (try dsimp only at hSw); go_simp) <;> (with_reducible rfl)
        try simp only [Act.put, List.setIfInBounds_toArray, List.set_cons_zero, List.set_cons_succ]
        refine wpAnyH_take (i := 1) (oi := ⟨some 55, _, _, _, _, _⟩) (v := ?_) rfl (by kernel_rfl) (by kernel_rfl) (by kernel_rfl) (fun _ _ _ h => h) (Or.inl ⟨by rfl, ?_⟩) (by assumption) ?_
        rotate_left 1
        · (intro w hSw; (try dsimp only at hSw); go_simp) <;> (with_reducible rfl)
        try simp only [Act.put, List.setIfInBounds_toArray, List.set_cons_zero, List.set_cons_succ]
        refine wpAnyH_take (i := 2) (oi := ⟨some 56, _, _, _, _, _⟩) (v := ?_) rfl (by kernel_rfl) (by kernel_rfl) (by kernel_rfl) (fun _ _ _ h => h) (Or.inl ⟨by rfl, ?_⟩) (by assumption) ?_
        rotate_left 1
        · (intro w hSw; (try dsimp only at hSw); go_simp) <;> (with_reducible rfl)
        try simp only [Act.put, List.setIfInBounds_toArray, List.set_cons_zero, List.set_cons_succ]
        refine wpAnyH_take (i := 3) (oi := ⟨some 57, _, _, _, _, _⟩) (v := ?_) rfl (by kernel_rfl) (by kernel_rfl) (by kernel_rfl) (fun _ _ _ h => h) (Or.inl ⟨by rfl, ?_⟩) (by assumption) ?_
        rotate_left 1
        · (intro w hSw; (try dsimp only at hSw); go_simp) <;> (with_reducible rfl)
        try simp only [Act.put, List.setIfInBounds_toArray, List.set_cons_zero, List.set_cons_succ]
        refine wpAnyH_take (i := 4) (oi := ⟨some 58, _, _, _, _, _⟩) (v := ?_) rfl (by kernel_rfl) (by kernel_rfl) (by kernel_rfl) (fun _ _ _ h => h) (Or.inl ⟨by rfl, ?_⟩) (by assumption) ?_
        rotate_left 1
        · (intro w hSw; (try dsimp only at hSw); go_simp) <;> (with_reducible rfl)
        try simp only [Act.put, List.setIfInBounds_toArray, List.set_cons_zero, List.set_cons_succ]
        refine wpAnyH_take (i := 6) (oi := ⟨some 60, _, _, _, _, _⟩) (v := ?_) rfl (by kernel_rfl) (by kernel_rfl) (by kernel_rfl) (fun _ _ _ h => h) (Or.inl ⟨by rfl, ?_⟩) (by assumption) ?_
        rotate_left 1
        · (intro w hSw; (try dsimp only at hSw); go_simp) <;> (with_reducible rfl)
        try simp only [Act.put, List.setIfInBounds_toArray, List.set_cons_zero, List.set_cons_succ]
        refine wpAnyH_take (i := 7) (oi := ⟨some 61, _, _, _, _, _⟩) (v := ?_) rfl (by kernel_rfl) (by kernel_rfl) (by kernel_rfl) (fun _ _ _ h => h) (Or.inl ⟨by rfl, ?_⟩) (by assumption) ?_
        rotate_left 1
        · (intro w hSw; (try dsimp only at hSw); go_simp) <;> (with_reducible rfl)
        try simp only [Act.put, List.setIfInBounds_toArray, List.set_cons_zero, List.set_cons_succ]
        refine wpAnyH_take (i := 8) (oi := ⟨some 62, _, _, _, _, _⟩) (v := ?_) rfl (by kernel_rfl) (by kernel_rfl) (by kernel_rfl) (fun _ _ _ h => h) (Or.inl ⟨by rfl, ?_⟩) (by assumption) ?_
        rotate_left 1
        · (intro w hSw; (try dsimp only at hSw); go_simp) <;> (with_reducible rfl)
        try simp only [Act.put, List.setIfInBounds_toArray, List.set_cons_zero, List.set_cons_succ]
        refine wpAnyH_take (i := 9) (oi := ⟨some 63, _, _, _, _, _⟩) (v := ?_) rfl (by kernel_rfl) (by kernel_rfl) (by kernel_rfl) (fun _ _ _ h => h) (Or.inl ⟨by rfl, ?_⟩) (by assumption) ?_
        rotate_left 1
        · (intro w hSw; (try dsimp only at hSw); go_simp) <;> (with_reducible rfl)
        try simp only [Act.put, List.setIfInBounds_toArray, List.set_cons_zero, List.set_cons_succ]
        refine wpAnyH_take (i := 10) (oi := ⟨some 64, _, _, _, _, _⟩) (v := ?_) rfl (by kernel_rfl) (by kernel_rfl) (by kernel_rfl) (fun _ _ _ h => h) (Or.inl ⟨by rfl, ?_⟩) (by assumption) ?_
        rotate_left 1
        · (intro w hSw; (try dsimp only at hSw); go_simp) <;> (with_reducible rfl)
        try simp only [Act.put, List.setIfInBounds_toArray, List.set_cons_zero, List.set_cons_succ]
        refine wpAnyH_take (i := 11) (oi := ⟨some 65, _, _, _, _, _⟩) (v := ?_) rfl (by kernel_rfl) (by kernel_rfl) (by kernel_rfl) (fun _ _ _ h => h) (Or.inl ⟨by rfl, ?_⟩) (by assumption) ?_
        rotate_left 1
        · (intro w hSw; (try dsimp only at hSw); go_simp) <;> (with_reducible rfl)
        try simp only [Act.put, List.setIfInBounds_toArray, List.set_cons_zero, List.set_cons_succ]
        refine wpAnyH_take (i := 12) (oi := ⟨some 66, _, _, _, _, _⟩) (v := ?_) rfl (by kernel_rfl) (by kernel_rfl) (by kernel_rfl) (fun _ _ _ h => h) (Or.inl ⟨by rfl, ?_⟩) (by assumption) ?_
        rotate_left 1
        · (intro w hSw; (try dsimp only at hSw); go_simp) <;> (with_reducible rfl)
        try simp only [Act.put, List.setIfInBounds_toArray, List.set_cons_zero, List.set_cons_succ]
        refine wpAnyH_take (i := 15) (oi := ⟨some 69, _, _, _, _, _⟩) (v := ?_) rfl (by kernel_rfl) (by kernel_rfl) (by kernel_rfl) (fun _ _ _ h => h) (Or.inl ⟨by rfl, ?_⟩) (by assumption) ?_
        rotate_left 1
        · (intro w hSw; (try dsimp only at hSw); go_simp) <;> (with_reducible rfl)
        try simp only [Act.put, List.setIfInBounds_toArray, List.set_cons_zero, List.set_cons_succ]
        refine wpAnyH_ready (rs := [5, 13]) (by kernel_rfl) (by simp) ?_
        refine AllReadyH.cons (o := ⟨some 59, _, _, _, _, _⟩) rfl (fun K hK => ?_) (AllReadyH.cons (o := ⟨some 67, _, _, _, _, _⟩) rfl (fun K hK => ?_) AllReadyH.nil)
        · go_simp
          refine hK.out _ _ ?_ (fun hHeld => ?_)
          · exact kL
          clear hK K
          try simp only [Act.put, List.setIfInBounds_toArray, List.set_cons_zero, List.set_cons_succ]
          refine wpAnyH_ready (rs := [13]) (by kernel_rfl) (by simp) ?_
          refine AllReadyH.cons (o := ⟨some 67, _, _, _, _, _⟩) rfl (fun K hK => ?_) AllReadyH.nil
          go_simp
          refine hK.out _ _ ?_ (fun hHeld => ?_)
          · exact kL
          clear hK K
          try simp only [Act.put, List.setIfInBounds_toArray, List.set_cons_zero, List.set_cons_succ]
          refine wpAnyH_ready (rs := [14]) (by kernel_rfl) (by simp) ?_
          refine AllReadyH.cons (o := ⟨some 68, _, _, _, _, _⟩) rfl (fun K hK => ?_) AllReadyH.nil
          refine step_app rfl _ _ 22 rfl w2.heap.size 5 i0 (.int .u8 0) 1 Tryd.underlying22 hi hz0 hz1 hz2 rfl (.slice (some ⟨w2.heap.size, 0, none⟩) 0 0) 0 [] rfl HNEW.out fa fc dt.length (cb dt) rfl (cb_length _) HDL.out.rd (cb_one _) HDL.out.nil (by unfold maxLen; omega) (by omega) HSL.out ?_
          intro v4 w4 ho4 hg4 _ _
          rw [Nat.zero_add, List.nil_append] at ho4
          obtain ⟨A4, c4, rfl, hc4, hA4⟩ := own_form ho4
          have HF4 : Hid (Fr NoBlk w2 w4) := HFL.out.grown hg4 (fun k hk hlt => by
            have hk' : some w2.heap.size = some k := hk
            injection hk' with hk'
            omega)
          have HO4 := Lib.hid ho4
          have k4 : w4.cell? ⟨m.g, 1, none⟩ = some (.slice (some ⟨b, 0, none⟩) m1.fs.length m1.FC) := (HF4.out.cell (p := ⟨m.g, 1, none⟩) hg2 (fun h => h)).trans c1
          have HRD4 := Lib.hid (HRD2.out.nofr HF4.out)
          have HSZ4 : Hid (w2.heap.size ≤ w4.heap.size) := HF4.out.size
          clear ho4 hg4 hc4 hA4
          refine hK.out _ _ ?_ (fun hHeld => ?_)
          · exact k4
          clear hK K
          try simp only [Act.put, List.setIfInBounds_toArray, List.set_cons_zero, List.set_cons_succ]
          refine wpAnyH_ready (rs := [16]) (by kernel_rfl) (by simp) ?_
          refine AllReadyH.cons (o := ⟨some 70, _, _, _, _, _⟩) rfl (fun K hK => ?_) AllReadyH.nil
          refine step_app rfl _ _ 22 rfl w2.heap.size 5 i0 (.int .u8 0) 1 Tryd.underlying22 hi hz0 hz1 hz2 rfl (.slice A4 dt.length c4) dt.length (cb dt) rfl HO4.out A c d.length (cb d) rfl (cb_length _) HRD4.out (cb_one _) HAC.out (by unfold maxLen; omega) (by omega) HSZ4.out ?_
          intro v5 w5 ho5 hg5 _ _
          obtain ⟨A5, c5, rfl, hc5, hA5⟩ := own_form ho5
          have HF5 : Hid (Fr NoBlk w2 w5) := HF4.out.grown hg5 (fun k hk hlt => by
            have := (own_lt HO4.out hk).1
            omega)
          have HO5 := Lib.hid ho5
          have k5 : w5.cell? ⟨m.g, 1, none⟩ = some (.slice (some ⟨b, 0, none⟩) m1.fs.length m1.FC) := (HF5.out.cell (p := ⟨m.g, 1, none⟩) hg2 (fun h => h)).trans c1
          have q5 : w5.cell? ⟨b, j * 3 + 1, none⟩ = some (.slice fa dt.length fc) := (HF5.out.cell (p := ⟨b, j * 3 + 1, none⟩) hbl (fun h => h)).trans q1
          have q5f : w5.frozen? ⟨b, j * 3 + 1, none⟩ = false := (HF5.out.frozen (p := ⟨b, j * 3 + 1, none⟩) hbl (fun h => h)).trans q1f
          have k6 : (w5.setCell ⟨b, j * 3 + 1, none⟩ (.slice A5 (dt.length + d.length) c5)).cell? ⟨m.g, 1, none⟩ = some (.slice (some ⟨b, 0, none⟩) m1.fs.length m1.FC) := by
            rw [World.cell?_setCell_far _ _ _ _ hbg]; exact k5
          have k4 := k5
          clear ho5 hg5 hc5 hA5
          refine hK.out _ _ ?_ (fun hHeld => ?_)
          · exact k4
          clear hK K
          try simp only [Act.put, List.setIfInBounds_toArray, List.set_cons_zero, List.set_cons_succ]
          refine wpAnyH_take (i := 17) (oi := ⟨some 71, _, _, _, _, _⟩) (v := ?_) rfl (by kernel_rfl) (by kernel_rfl) (by kernel_rfl) (fun _ _ _ h => h) (Or.inl ⟨by rfl, ?_⟩) (by assumption) ?_
          rotate_left 1
          · (intro w hSw; (try dsimp only at hSw); go_simp) <;> (with_reducible rfl)
          try simp only [Act.put, List.setIfInBounds_toArray, List.set_cons_zero, List.set_cons_succ]
          refine wpAnyH_take (i := 18) (oi := ⟨some 72, _, _, _, _, _⟩) (v := ?_) rfl (by kernel_rfl) (by kernel_rfl) (by kernel_rfl) (fun _ _ _ h => h) (Or.inl ⟨by rfl, ?_⟩) (by assumption) ?_
          rotate_left 1
          · (intro w hSw; (try dsimp only at hSw); go_simp) <;> (with_reducible rfl)
          try simp only [Act.put, List.setIfInBounds_toArray, List.set_cons_zero, List.set_cons_succ]
          refine wpAnyH_ready (rs := [19]) (by kernel_rfl) (by simp) ?_
          refine AllReadyH.cons (o := ⟨none, _, _, _, _, _⟩) rfl (fun K hK => ?_) AllReadyH.nil
          go_simp
          refine hK.out _ _ ?_ (fun hHeld => ?_)
          · exact k6
          clear hK K
          try simp only [Act.put, List.setIfInBounds_toArray, List.set_cons_zero, List.set_cons_succ]
          refine wpAnyH_done (by kernel_rfl) ?_ _
          have hlen5 : (dt ++ d).length = dt.length + d.length := List.length_append
          have HDY : Hid (DOk w5 base A5 c5 (dt ++ d)) := DOk.ofOwn (n := dt.length + d.length) (own_base (by rw [cb_append]; exact HO5.out) hb2) hlen5.symm
          have P6 := (HP2.out.more HF5.out).turn HJ1.out hA ⟨⟨nm, dt ++ d, la⟩, A5, c5⟩ 1 (by omega) (.slice A5 (dt.length + d.length) c5) (by show [_, _, _] = [_, Value.slice A5 (dt ++ d).length c5, _]; rw [hlen5]) HDY.out (fun hp k hk => .inr (by
            have hk' := (own_abl HO5.out hk).1
            have := HP2.out.fr.size
            omega))
          obtain ⟨m2, hm2⟩ : ∃ m2 : RM, m2 = { m1 with fs := m1.fs.set j ⟨⟨nm, dt ++ d, la⟩, A5, c5⟩ } := ⟨_, rfl⟩
          rw [← hm2] at P6
          have e21 : m2.left = m1.left := by rw [hm2]
          have e22 : m2.g = m.g := P6.g
          have HUS := Lib.hid (ruse_any _ base m2 P6.rin (by rw [e21, HM1.out.2.1]; exact HT.out.left))
          rw [e22, e21] at HUS
          have HFIN : Hid (∀ w7, RPost (w5.setCell ⟨b, j * 3 + 1, none⟩ (.slice A5 (dt.length + d.length) c5)) w7 base m2 (rspend m2) → REnd w base m r (.returned (.int .i64 (if m1.left = 0 then 3 else 0))) w7) := fun w7 hp7 => by
            refine ⟨?_, _, ?_, P6.trans hp7⟩
            · rw [HQ1.out]
              show _ = Ending.returned (.int .i64 (if m.left = 0 then 3 else 0))
              rw [HM1.out.2.1]
            · rw [HQ1.out, rspend_pd, hm2]
              show pspend (⟨m1.room, m1.left, m1.down, (m1.fs.set j _).map RF.pf⟩ : PD) = pspend ⟨m.room, m.left, m.down, _⟩
              rw [HM1.out.1, HM1.out.2.1, HM1.out.2.2, List.map_set, ← HPUT.out]
          clear hm2 e21 e22
          clear P6 HP2 HQ1 HDY HF4 HF5 HO4 HO5 HRD4 HSZ4 HDL HNEW HSL HFL HPUT
          by_cases h0 : m1.left = 0
          · rw [if_pos h0] at HFIN
            have e0 : decide (m1.left = 0) = true := decide_eq_true h0
            rw [e0] at HUS
            clear e0 h0
            go_wp2_with fail
            refine HUS.out.mono ?_
            clear HUS
            rintro e w7 ⟨rfl, hp7⟩
            have HZ := Lib.hid (HFIN.out w7 hp7)
            clear hp7 HFIN
            go_wp2_with fail
            go_ret
            exact HZ.out
          · rw [if_neg h0] at HFIN
            have e0 : decide (m1.left = 0) = false := decide_eq_false h0
            rw [e0] at HUS
            clear e0 h0
            go_wp2_with fail
            refine HUS.out.mono ?_
            clear HUS
            rintro e w7 ⟨rfl, hp7⟩
            have HZ := Lib.hid (HFIN.out w7 hp7)
            clear hp7 HFIN
            go_wp2_with fail
            go_ret
            exact HZ.out
        · go_simp
          refine hK.out _ _ ?_ (fun hHeld => ?_)
          · exact c1
          clear hK K
          try simp only [Act.put, List.setIfInBounds_toArray, List.set_cons_zero, List.set_cons_succ]
          refine wpAnyH_ready (rs := [5]) (by kernel_rfl) (by simp) ?_
          refine AllReadyH.cons (o := ⟨some 59, _, _, _, _, _⟩) rfl (fun K hK => ?_) AllReadyH.nil
          go_simp
          refine hK.out _ _ ?_ (fun hHeld => ?_)
          · exact kL
          clear hK K
          try simp only [Act.put, List.setIfInBounds_toArray, List.set_cons_zero, List.set_cons_succ]
          refine wpAnyH_ready (rs := [14]) (by kernel_rfl) (by simp) ?_
          refine AllReadyH.cons (o := ⟨some 68, _, _, _, _, _⟩) rfl (fun K hK => ?_) AllReadyH.nil
          refine step_app rfl _ _ 22 rfl w2.heap.size 5 i0 (.int .u8 0) 1 Tryd.underlying22 hi hz0 hz1 hz2 rfl (.slice (some ⟨w2.heap.size, 0, none⟩) 0 0) 0 [] rfl HNEW.out fa fc dt.length (cb dt) rfl (cb_length _) HDL.out.rd (cb_one _) HDL.out.nil (by unfold maxLen; omega) (by omega) HSL.out ?_
          intro v4 w4 ho4 hg4 _ _
          rw [Nat.zero_add, List.nil_append] at ho4
          obtain ⟨A4, c4, rfl, hc4, hA4⟩ := own_form ho4
          have HF4 : Hid (Fr NoBlk w2 w4) := HFL.out.grown hg4 (fun k hk hlt => by
            have hk' : some w2.heap.size = some k := hk
            injection hk' with hk'
            omega)
          have HO4 := Lib.hid ho4
          have k4 : w4.cell? ⟨m.g, 1, none⟩ = some (.slice (some ⟨b, 0, none⟩) m1.fs.length m1.FC) := (HF4.out.cell (p := ⟨m.g, 1, none⟩) hg2 (fun h => h)).trans c1
          have HRD4 := Lib.hid (HRD2.out.nofr HF4.out)
          have HSZ4 : Hid (w2.heap.size ≤ w4.heap.size) := HF4.out.size
          clear ho4 hg4 hc4 hA4
          refine hK.out _ _ ?_ (fun hHeld => ?_)
          · exact k4
          clear hK K
          try simp only [Act.put, List.setIfInBounds_toArray, List.set_cons_zero, List.set_cons_succ]
          refine wpAnyH_ready (rs := [16]) (by kernel_rfl) (by simp) ?_
          refine AllReadyH.cons (o := ⟨some 70, _, _, _, _, _⟩) rfl (fun K hK => ?_) AllReadyH.nil
          refine step_app rfl _ _ 22 rfl w2.heap.size 5 i0 (.int .u8 0) 1 Tryd.underlying22 hi hz0 hz1 hz2 rfl (.slice A4 dt.length c4) dt.length (cb dt) rfl HO4.out A c d.length (cb d) rfl (cb_length _) HRD4.out (cb_one _) HAC.out (by unfold maxLen; omega) (by omega) HSZ4.out ?_
          intro v5 w5 ho5 hg5 _ _
          obtain ⟨A5, c5, rfl, hc5, hA5⟩ := own_form ho5
          have HF5 : Hid (Fr NoBlk w2 w5) := HF4.out.grown hg5 (fun k hk hlt => by
            have := (own_lt HO4.out hk).1
            omega)
          have HO5 := Lib.hid ho5
          have k5 : w5.cell? ⟨m.g, 1, none⟩ = some (.slice (some ⟨b, 0, none⟩) m1.fs.length m1.FC) := (HF5.out.cell (p := ⟨m.g, 1, none⟩) hg2 (fun h => h)).trans c1
          have q5 : w5.cell? ⟨b, j * 3 + 1, none⟩ = some (.slice fa dt.length fc) := (HF5.out.cell (p := ⟨b, j * 3 + 1, none⟩) hbl (fun h => h)).trans q1
          have q5f : w5.frozen? ⟨b, j * 3 + 1, none⟩ = false := (HF5.out.frozen (p := ⟨b, j * 3 + 1, none⟩) hbl (fun h => h)).trans q1f
          have k6 : (w5.setCell ⟨b, j * 3 + 1, none⟩ (.slice A5 (dt.length + d.length) c5)).cell? ⟨m.g, 1, none⟩ = some (.slice (some ⟨b, 0, none⟩) m1.fs.length m1.FC) := by
            rw [World.cell?_setCell_far _ _ _ _ hbg]; exact k5
          have k4 := k5
          clear ho5 hg5 hc5 hA5
          refine hK.out _ _ ?_ (fun hHeld => ?_)
          · exact k4
          clear hK K
          try simp only [Act.put, List.setIfInBounds_toArray, List.set_cons_zero, List.set_cons_succ]
          refine wpAnyH_take (i := 17) (oi := ⟨some 71, _, _, _, _, _⟩) (v := ?_) rfl (by kernel_rfl) (by kernel_rfl) (by kernel_rfl) (fun _ _ _ h => h) (Or.inl ⟨by rfl, ?_⟩) (by assumption) ?_
          rotate_left 1
          · (intro w hSw; (try dsimp only at hSw); go_simp) <;> (with_reducible rfl)
          try simp only [Act.put, List.setIfInBounds_toArray, List.set_cons_zero, List.set_cons_succ]
          refine wpAnyH_take (i := 18) (oi := ⟨some 72, _, _, _, _, _⟩) (v := ?_) rfl (by kernel_rfl) (by kernel_rfl) (by kernel_rfl) (fun _ _ _ h => h) (Or.inl ⟨by rfl, ?_⟩) (by assumption) ?_
          rotate_left 1
          · (intro w hSw; (try dsimp only at hSw); go_simp) <;> (with_reducible rfl)
          try simp only [Act.put, List.setIfInBounds_toArray, List.set_cons_zero, List.set_cons_succ]
          refine wpAnyH_ready (rs := [19]) (by kernel_rfl) (by simp) ?_
          refine AllReadyH.cons (o := ⟨none, _, _, _, _, _⟩) rfl (fun K hK => ?_) AllReadyH.nil
          go_simp
          refine hK.out _ _ ?_ (fun hHeld => ?_)
          · exact k6
          clear hK K
          try simp only [Act.put, List.setIfInBounds_toArray, List.set_cons_zero, List.set_cons_succ]
          refine wpAnyH_done (by kernel_rfl) ?_ _
          have hlen5 : (dt ++ d).length = dt.length + d.length := List.length_append
          have HDY : Hid (DOk w5 base A5 c5 (dt ++ d)) := DOk.ofOwn (n := dt.length + d.length) (own_base (by rw [cb_append]; exact HO5.out) hb2) hlen5.symm
          have P6 := (HP2.out.more HF5.out).turn HJ1.out hA ⟨⟨nm, dt ++ d, la⟩, A5, c5⟩ 1 (by omega) (.slice A5 (dt.length + d.length) c5) (by show [_, _, _] = [_, Value.slice A5 (dt ++ d).length c5, _]; rw [hlen5]) HDY.out (fun hp k hk => .inr (by
            have hk' := (own_abl HO5.out hk).1
            have := HP2.out.fr.size
            omega))
          obtain ⟨m2, hm2⟩ : ∃ m2 : RM, m2 = { m1 with fs := m1.fs.set j ⟨⟨nm, dt ++ d, la⟩, A5, c5⟩ } := ⟨_, rfl⟩
          rw [← hm2] at P6
          have e21 : m2.left = m1.left := by rw [hm2]
          have e22 : m2.g = m.g := P6.g
          have HUS := Lib.hid (ruse_any _ base m2 P6.rin (by rw [e21, HM1.out.2.1]; exact HT.out.left))
          rw [e22, e21] at HUS
          have HFIN : Hid (∀ w7, RPost (w5.setCell ⟨b, j * 3 + 1, none⟩ (.slice A5 (dt.length + d.length) c5)) w7 base m2 (rspend m2) → REnd w base m r (.returned (.int .i64 (if m1.left = 0 then 3 else 0))) w7) := fun w7 hp7 => by
            refine ⟨?_, _, ?_, P6.trans hp7⟩
            · rw [HQ1.out]
              show _ = Ending.returned (.int .i64 (if m.left = 0 then 3 else 0))
              rw [HM1.out.2.1]
            · rw [HQ1.out, rspend_pd, hm2]
              show pspend (⟨m1.room, m1.left, m1.down, (m1.fs.set j _).map RF.pf⟩ : PD) = pspend ⟨m.room, m.left, m.down, _⟩
              rw [HM1.out.1, HM1.out.2.1, HM1.out.2.2, List.map_set, ← HPUT.out]
          clear hm2 e21 e22
          clear P6 HP2 HQ1 HDY HF4 HF5 HO4 HO5 HRD4 HSZ4 HDL HNEW HSL HFL HPUT
          by_cases h0 : m1.left = 0
          · rw [if_pos h0] at HFIN
            have e0 : decide (m1.left = 0) = true := decide_eq_true h0
            rw [e0] at HUS
            clear e0 h0
            go_wp2_with fail
            refine HUS.out.mono ?_
            clear HUS
            rintro e w7 ⟨rfl, hp7⟩
            have HZ := Lib.hid (HFIN.out w7 hp7)
            clear hp7 HFIN
            go_wp2_with fail
            go_ret
            exact HZ.out
          · rw [if_neg h0] at HFIN
            have e0 : decide (m1.left = 0) = false := decide_eq_false h0
            rw [e0] at HUS
            clear e0 h0
            go_wp2_with fail
            refine HUS.out.mono ?_
            clear HUS
            rintro e w7 ⟨rfl, hp7⟩
            have HZ := Lib.hid (HFIN.out w7 hp7)
            clear hp7 HFIN
            go_wp2_with fail
            go_ret
            exact HZ.out
end Go.Proofs.YtokonhcphhpogaaDoor

namespace Go.Proofs.YtokonhcphhpogaaDoor
open Go.RowKit

theorem step_appO {P : Program} {w : World} {ops : Array Oper} {o : Oper} {a : Act} {K : Act → World → Prop} {Q : Exit → Act → World → Prop} {E : Prop} (hgd : o.guard = none) (s x : Operand) (t : TypeId)
    (ho : o.op = .call { callee := .builtin .append, args := #[s, x], argTypes := #[t, t] })
    (base : Nat) (e : TypeId) (i : TypeInfo) (z : Value) (size bytes : Nat) (ht : P.underlying t = some (.slice e)) (hi : P.info? e = some i) (hz : i.zero = some z)
    (hsize : i.size = size) (hby : i.bytes = bytes) (hzs : z.cells.size = size) (hpos : 0 < size)
    (v : Value) (n : Nat) (xs : List Value) (hs : a.eval s = v) (hown : w.ownsRow base e size v n xs)
    (ad : Addr) (c m : Nat) (news : List Value) (hx : a.eval x = .slice (some ad) m c) (hm : news.length = m * size) (hr : Rd w (some ad) news) (h1 : ∀ u ∈ news, u.oneCell' = true)
    (h63 : n + m ≤ maxLen) (hbytes : (n + m) * bytes ≤ 140737488355328) (hbase : base ≤ w.heap.size)
    (h : ∀ v' w', w'.ownsRow base e size v' (n + m) (xs ++ news) → w.grownBy w' v.ownBlock → (v'.ownBlock = v.ownBlock ∨ v'.ownBlock = some w.heap.size) → K (a.put o.dst v') w') :
    if Region.wanted o (yielded ops a.tmps) = true then Oper.wp P o a w K Q else E := by
  have hw : Region.wanted o (yielded ops a.tmps) = true := by simp [Region.wanted, hgd]
  rw [if_pos hw]
  obtain ⟨v', w', hrun, h2, h3, _, h5⟩ := run_append_own_at (P := P) w base t o.type e i z size bytes ht hi hz hsize hby hzs hpos v n xs hown ad m c news hm
    (fun j u hu => by
      obtain ⟨b, o, e', hc⟩ := hr (by have := (List.getElem?_eq_some_iff.1 hu).1; omega)
      injection e' with e'
      subst e'
      have := hc j u hu
      unfold Addr.add
      split
      · subst j; simpa using this
      · exact this) h1 h63 hbytes hbase
  unfold Oper.wp execOp
  simp only [ho, resolve, invoke, builtin, Sem.run_bind, Sem.run_pure, Result.andThen_ok, List.map_toArray, List.map_cons, List.map_nil, hs, hx, hrun]
  exact h v' w' h2 h3 h5
theorem RIn.push {wr w5 w6 : World} {base : Nat} {m : RM} (h : RIn wr base m) (hf : Fr NoBlk wr w5) (y : RF) (hy : DOk w5 base y.A y.c y.pf.data) {A6 : Option Addr} {c6 : Nat} (ho : w6.ownsRow base 54 3 (.slice A6 (m.fs.length + 1) c6) (m.fs.length + 1) (rfcs m.fs ++ rfc y))
    (hg : w5.grownBy w6 (Value.slice m.FA m.fs.length m.FC).ownBlock) : RIn (w6.setCell ⟨m.g, 1, none⟩ (.slice A6 (m.fs.length + 1) c6)) base { m with FA := A6, FC := c6, fs := m.fs ++ [y] } ∧ Fr m.own wr (w6.setCell ⟨m.g, 1, none⟩ (.slice A6 (m.fs.length + 1) c6)) := by
  have h5 := h.nofr hf
  have hg6 : Fr m.own w5 w6 := (Fr.ofGrown hg).mono fun k _ hk => .inr (by
    cases hA : m.FA with
    | none => rw [hA] at hk; cases hk
    | some a => rw [hA] at hk; injection hk with hk; exact ⟨a, rfl, hk.symm⟩)
  have hb6 : Bk w6 m.g 52 m.cells := h5.bk.fr (Fr.ofGrown hg) fun e => own_apart h5.row h5.bk (by decide) e.symm
  have hs : Fr (fun k => k = m.g) w6 (w6.setCell ⟨m.g, 1, none⟩ (.slice A6 (m.fs.length + 1) c6)) := (Fr.refl (fun k => k = m.g) w6).setCell (p := ⟨m.g, 1, none⟩) (fun _ => rfl) _
  have ht : Fr m.own w5 (w6.setCell ⟨m.g, 1, none⟩ (.slice A6 (m.fs.length + 1) c6)) := hg6.trans (hs.mono fun k _ hk => .inl hk)
  have hl : (m.fs ++ [y]).length = m.fs.length + 1 := by simp
  refine ⟨⟨?_, h.gb, ?_, fun f hff => ?_⟩, (hf.mono fun _ _ h => h.elim).trans ht⟩
  · show Bk _ m.g _ #[.int .i64 m.room, .slice A6 (m.fs ++ [y]).length c6, .int .i64 m.left, .bool m.down]
    rw [hl]
    exact hb6.put 1 (.slice A6 (m.fs.length + 1) c6)
  · show World.ownsRow _ _ _ _ (.slice A6 (m.fs ++ [y]).length c6) (m.fs ++ [y]).length (rfcs (m.fs ++ [y]))
    rw [hl, rfcs_append]
    show World.ownsRow _ _ _ _ _ _ (rfcs m.fs ++ (rfc y ++ []))
    rw [List.append_nil]
    exact own_fr ho hs fun k hk e => own_apart ho hb6 (by decide) (e ▸ hk)
  · have hd : DOk w5 base f.A f.c f.pf.data := by
      rcases List.mem_append.1 hff with hff | hff
      · exact h5.dat f hff
      · rw [List.mem_singleton.1 hff]; exact hy
    exact hd.fr ht (h5.apart hd)
theorem crash_step (L : List PF) (ks : List Int) (k : Nat) (f : PF) (h : L[k]? = some f) : pcrashL (L.take (k + 1)) ks = pcrashL (L.take k) ks ++ [pcrashF f (ks.getD k 0)] := by
  induction L generalizing k ks with
  | nil => cases h
  | cons g t ih =>
    cases k with
    | zero =>
      injection h with h
      subst h
      cases ks <;> rfl
    | succ k =>
      show pcrashF g (ks.headD 0) :: pcrashL (t.take (k + 1)) ks.tail = pcrashF g (ks.headD 0) :: (pcrashL (t.take k) ks.tail ++ _)
      rw [ih ks.tail k h]
      cases ks <;> rfl

def RCrash (w : World) (p : PD) (e : Ending) (w' : World) : Prop := ∃ m', e = .returned (.pointer (some ⟨m'.g, 0, none⟩)) ∧ m'.pd = p ∧ RIn w' w.heap.size m' ∧ Fr NoBlk w w'
set_option maxRecDepth 100000 in
set_option maxHeartbeats 8000000 in
theorem rcrash_any (w : World) (base : Nat) (m : RM) (h : RIn w base m) (ht : RFit m) (K : Option Addr) (kc : Nat) (ks : List Int) (hk : Rd w K (ics ks)) (hkl : ks.length ≤ maxLen) :
    Calls Tryd.prog 17 #[.pointer (some ⟨m.g, 0, none⟩), .slice K ks.length kc] w (RCrash w (pCrash m.pd ks)) := by
  obtain ⟨i0, hi, hz0, hz1, hz2⟩ := info_parts byteInfo
  obtain ⟨l0, hl, hl0, hl1, hl2⟩ := info_parts fileInfo
  have hlen := ht.len
  have HR := Lib.hid h
  have HT := Lib.hid ht
  have HKS := Lib.hid hk
  have hgl := h.bk.lt
  have htot := ht.tot
  have hroom := ht.room
  have c0 := h.cell.1
  have HR0 : Hid (RIn (w.alloc (.cells #[.int .i64 m.room, .slice none 0 0, .int .i64 (-1), .bool false] 52)) w.heap.size (rnew w.heap.size m.room)) := RIn.new (Bk.new _ _ _) (Nat.le_refl _)
  have HF0 : Hid (Fr NoBlk w (w.alloc (.cells #[.int .i64 m.room, .slice none 0 0, .int .i64 (-1), .bool false] 52))) := (Fr.refl _ _).alloc _
  clear h ht hk
  unfold maxLen at hkl
  go_enter Tryd.func17, Tryd.ntmps17
  go_wp2_with fail
  go_loopw [6] (fun z wr => ∃ (k : Nat) (mo : RM), k ≤ m.fs.length ∧ z = .int .i64 k ∧ Hid (RIn wr w.heap.size mo) ∧ Hid (Fr NoBlk w wr) ∧ Hid (mo.fs.map RF.pf = pcrashL (m.pfs.take k) ks) ∧ mo.fs.length = k ∧ Hid (mo.g = w.heap.size) ∧ Hid (mo.room = m.room ∧ mo.left = -1 ∧ mo.down = false)) (fun z _ => m.fs.length - (intOf z).toNat)
  case atStart => exact ⟨0, _, by omega, rfl, HR0, HF0, by simp [rnew, pcrashL, Hid], rfl, rfl, rfl, rfl, rfl⟩
  case round =>
    clear HR0 HF0
    obtain ⟨k, mo, hk, rfl, HRO, HFW, HMO, hmo0, HGO, HST⟩ := hrel
    have HMOL := Lib.hid hmo0
    clear hmo0
    have HRr := Lib.hid (HR.out.nofr HFW.out)
    obtain ⟨_, c1, _, _⟩ := HRr.out.cell
    have hgr := HRr.out.bk.lt
    by_cases hlt : k < m.fs.length
    · obtain ⟨f, hf⟩ : ∃ f, m.fs[k]? = some f := ⟨_, List.getElem?_eq_getElem hlt⟩
      obtain ⟨b, hA, hne, q0, q1, q2, hfz⟩ := HRr.out.file hf
      rw [hA] at c1
      have hpf : m.pfs[k]? = some f.pf := by show (m.fs.map RF.pf)[k]? = _; rw [List.getElem?_map, hf]; rfl
      have HCR0 := Lib.hid (crash_step m.pfs ks k f.pf hpf)
      have hmem : f.pf ∈ m.pfs := List.mem_of_getElem? hpf
      have hll : f.pf.last ≤ f.pf.data.length := HT.out.last _ hmem
      have hdl : f.pf.data.length ≤ 1048576 := by have := ptotal_mem hmem; omega
      have HDf := Lib.hid (HRr.out.dat f (List.mem_of_getElem? hf))
      have i0' : (0 : Int) ≤ (k : Int) := by omega
      have i1' : (k : Int) < (m.fs.length : Int) := by omega
      obtain ⟨x, hx⟩ : ∃ x, x = ks.getD k 0 := ⟨_, rfl⟩
      have HXX := Lib.hid hx
      rw [← hx] at HCR0
      obtain ⟨⟨nm, dt, la⟩, fa, fc⟩ := f
      dsimp only at q0 q1 q2 hll hdl HDf HCR0 hmem
      obtain ⟨p, hp⟩ : ∃ p, p = dt.length - la := ⟨_, rfl⟩
      obtain ⟨q, hq⟩ : ∃ q, q = p + 1 := ⟨_, rfl⟩
      obtain ⟨nn, hnn⟩ : ∃ nn, nn = pkeep ⟨nm, dt, la⟩ x := ⟨_, rfl⟩
      have hnl : nn ≤ dt.length := by rw [hnn]; exact pkeep_le ⟨nm, dt, la⟩ x hll
      have hnq : (nn : Int) = (la : Int) + x % (q : Int) := by
        rw [hnn]
        unfold pkeep
        have e : (dt.length - la + 1 : Nat) = q := by rw [hq, hp]
        show ((la + (x % ((dt.length - la + 1 : Nat) : Int)).toNat : Nat) : Int) = _
        rw [e]
        have := Int.emod_nonneg x (show (q : Int) ≠ 0 by omega)
        omega
      have HCR : Hid (pcrashL (m.pfs.take (k + 1)) ks = pcrashL (m.pfs.take k) ks ++ [⟨nm, dt.take nn, nn⟩]) := by
        show _ = _
        rw [HCR0.out, hnn]; rfl
      have e1 : IntKind.i64.wrap ((dt.length : Int) - (la : Int)) = (p : Int) := by rw [IntWalk.i64_in _ (by omega)]; omega
      have e2' : IntKind.i64.wrap ((p : Int) + 1) = (q : Int) := by rw [IntWalk.i64_in _ (by omega)]; omega
      have hq0 : (0 : Int) < (q : Int) := by omega
      have hqb : (q : Int) ≤ 1048577 := by omega
      have hn0 : (0 : Int) ≤ (nn : Int) := by omega
      have hfc : dt.length ≤ fc := HDf.out.le
      have hnc : (nn : Int) ≤ (fc : Int) := by omega
      have hnl' : (nn : Int) ≤ (dt.length : Int) := by omega
      have HNL : Hid ((dt.take nn).length = nn) := by show _ = _; rw [List.length_take]; omega
      have HTL : Hid ((cb (dt.take nn)).length = nn) := by show _ = _; rw [cb_length]; exact HNL.out
      -- the file's box, and what stays behind it
      obtain ⟨wB, hwB⟩ : ∃ wB, wB = wr.alloc (.cells #[.string (bstr nm), .slice fa dt.length fc, .int .i64 la] 54) := ⟨_, rfl⟩
      have HWB := Lib.hid hwB
      have HFB : Hid (Fr NoBlk wr wB) := by show Fr _ _ _; rw [hwB]; exact (Fr.refl _ _).alloc _
      have HBB : Hid (Bk wB wr.heap.size 54 #[.string (bstr nm), .slice fa dt.length fc, .int .i64 la]) := by show Bk _ _ _ _; rw [hwB]; exact Bk.new _ _ _
      have hrb : wr.heap.size < wB.heap.size := HBB.out.lt
      have HGB : Hid (w.heap.size < wr.heap.size) := by
        have := HRO.out.bk.lt
        rw [HGO.out] at this
        exact this
      have SF : ∀ W, Fr NoBlk wB W → W.cell? ⟨wr.heap.size, 0, none⟩ = some (.string (bstr nm)) ∧ W.cell? ⟨wr.heap.size, 1, none⟩ = some (.slice fa dt.length fc) := fun W hW => ⟨(HBB.out.fr hW fun h => h).cell 0, (HBB.out.fr hW fun h => h).cell 1⟩
      have SG : ∀ W, Fr (fun k => (Value.slice mo.FA mo.fs.length mo.FC).ownBlock = some k) wB W → W.cell? ⟨wr.heap.size, 0, none⟩ = some (.string (bstr nm)) ∧ W.cell? ⟨wr.heap.size, 1, none⟩ = some (.slice fa dt.length fc) := fun W hW => by
        have := HBB.out.fr hW fun hk => by have := (own_lt HRO.out.row hk).2; omega
        exact ⟨this.cell 0, this.cell 1⟩
      have SH : ∀ (W : World) (v : Value), (W.cell? ⟨wr.heap.size, 0, none⟩ = some (.string (bstr nm)) ∧ W.cell? ⟨wr.heap.size, 1, none⟩ = some (.slice fa dt.length fc)) → (W.setCell ⟨w.heap.size, 1, none⟩ v).cell? ⟨wr.heap.size, 0, none⟩ = some (.string (bstr nm)) ∧ (W.setCell ⟨w.heap.size, 1, none⟩ v).cell? ⟨wr.heap.size, 1, none⟩ = some (.slice fa dt.length fc) := fun W v hW => by
        have hne : w.heap.size ≠ wr.heap.size := by have := HGB.out; omega
        exact ⟨(World.cell?_setCell_far W ⟨w.heap.size, 1, none⟩ ⟨wr.heap.size, 0, none⟩ v hne).trans hW.1, (World.cell?_setCell_far W ⟨w.heap.size, 1, none⟩ ⟨wr.heap.size, 1, none⟩ v hne).trans hW.2⟩
      have OF : ∀ W, Fr NoBlk wB W → W.cell? ⟨w.heap.size, 1, none⟩ = some (.slice mo.FA mo.fs.length mo.FC) := fun W hW => by
        have := (HRO.out.nofr (HFB.out.trans hW)).cell.2.1
        rwa [HGO.out] at this
      have HFL : Hid (Fr NoBlk wB (wB.drew.alloc (.cells #[] 5))) := ((Fr.refl _ _).drew).alloc _
      have sD := SF wB.drew (Fr.refl _ _).drew
      have sL := SF _ HFL.out
      have oD := OF wB.drew (Fr.refl _ _).drew
      have oL := OF _ HFL.out
      have oL2 : (wB.alloc (.cells #[] 5)).drew.cell? ⟨w.heap.size, 1, none⟩ = some (.slice mo.FA mo.fs.length mo.FC) := oL
      have oL3 : (wB.alloc (.cells #[] 5)).cell? ⟨w.heap.size, 1, none⟩ = some (.slice mo.FA mo.fs.length mo.FC) := oL
      have HNEW : Hid ((wB.drew.alloc (.cells #[] 5)).ownsRow wB.heap.size 5 1 (.slice (some ⟨wB.heap.size, 0, none⟩) 0 0) 0 []) := World.ownsRow_made wB.drew #[] 0 (Nat.le_refl _) (by decide) rfl
      have HDL := Lib.hid ((HDf.out.cut nn).nofr (HFB.out.trans HFL.out))
      have HSL : Hid (wB.heap.size ≤ (wB.drew.alloc (.cells #[] 5)).heap.size) := HFL.out.size
      have b0 : wB.cell? ⟨wr.heap.size, 0, none⟩ = some (.string (bstr nm)) := HBB.out.cell 0
      have b1 : wB.cell? ⟨wr.heap.size, 1, none⟩ = some (.slice fa dt.length fc) := HBB.out.cell 1
      have b2 : wB.cell? ⟨wr.heap.size, 2, none⟩ = some (.int .i64 la) := HBB.out.cell 2
      clear hp hq hnn hA hf hpf hx hmem hfz hwB HCR0
      have hqc : ¬ (q : Int) = 0 := by omega
      by_cases hin : k < ks.length
      · obtain ⟨kb, ko, rfl, hkc⟩ : ∃ kb ko, K = some ⟨kb, ko, none⟩ ∧ wr.cell? ⟨kb, ko + k, none⟩ = some (.int .i64 x) := by
          have hk2 := (HKS.out.nofr HFW.out).at_ (k := k) (v := .int .i64 x) (by
            show (ks.map fun z => Value.int .i64 z)[k]? = _
            rw [List.getElem?_map, List.getElem?_eq_getElem hin, HXX.out, List.getD_eq_getElem?_getD, List.getElem?_eq_getElem hin]; rfl)
          obtain ⟨kb, ko, e, h⟩ := hk2
          exact ⟨kb, ko, e, h⟩
        have hkl' : kb < wr.heap.size := World.block_lt_of_cell? wr _ hkc
        have hmp := fun h => tmod_pos x (q : Int) hq0 h
        have hmn := fun h => tmod_neg x (q : Int) hq0 h
        have hb1 := Int.tmod_lt_of_pos x hq0
        have hb2 := Int.lt_tmod_of_pos x hq0
        obtain ⟨t, ht⟩ : ∃ t, t = x.tmod (q : Int) := ⟨_, rfl⟩
        rw [← ht] at hmp hmn hb1 hb2
        have ht' : x.tmod (q : Int) = t := ht.symm
        have e8 : IntKind.i64.wrap t = t := IntWalk.i64_in _ (by omega)
        have hqn : ((q : Int) == 0) = false := by rw [beq_eq_false_iff_ne]; omega
        clear ht
        by_cases htn : t < 0
        · have hr := hmn htn
          have e9 : IntKind.i64.wrap (t + (q : Int)) = t + (q : Int) := IntWalk.i64_in _ (by omega)
          have e5 : IntKind.i64.wrap ((la : Int) + (t + (q : Int))) = (nn : Int) := by rw [IntWalk.i64_in _ (by omega)]; omega
          clear hmp hmn hr hnq
          go_wp2_with fail
          rw [← HWB.out]
          clear HWB q0 q1 q2 b2 c1
          refine wp_region_held_drew (S := fun w' => w'.cell? ⟨wr.heap.size, 0, none⟩ = some (.string (bstr nm)) ∧ w'.cell? ⟨wr.heap.size, 1, none⟩ = some (.slice fa dt.length fc)) (by kernel_rfl) (by exact sD) (fun hHeld => ?_)
          refine wpAnyH_take (i := 0) (oi := ⟨some 59, _, _, _, _, _⟩) (v := ?_) rfl (by kernel_rfl) (by kernel_rfl) (by kernel_rfl) (fun _ _ _ h => h) (Or.inl ⟨by rfl, ?_⟩) (by assumption) ?_
          rotate_left 1
          · (intro w hSw; (try dsimp only at hSw); obtain ⟨hSa, hSb⟩ := hSw; go_simp) <;> (with_reducible rfl)
          try simp only [Act.put, List.setIfInBounds_toArray, List.set_cons_zero, List.set_cons_succ]
          refine wpAnyH_take (i := 1) (oi := ⟨some 60, _, _, _, _, _⟩) (v := ?_) rfl (by kernel_rfl) (by kernel_rfl) (by kernel_rfl) (fun _ _ _ h => h) (Or.inl ⟨by rfl, ?_⟩) (by assumption) ?_
          rotate_left 1
          · (intro w hSw; (try dsimp only at hSw); obtain ⟨hSa, hSb⟩ := hSw; go_simp) <;> (with_reducible rfl)
          try simp only [Act.put, List.setIfInBounds_toArray, List.set_cons_zero, List.set_cons_succ]
          refine wpAnyH_take (i := 2) (oi := ⟨some 61, _, _, _, _, _⟩) (v := ?_) rfl (by kernel_rfl) (by kernel_rfl) (by kernel_rfl) (fun _ _ _ h => h) (Or.inl ⟨by rfl, ?_⟩) (by assumption) ?_
          rotate_left 1
          · (intro w hSw; (try dsimp only at hSw); obtain ⟨hSa, hSb⟩ := hSw; go_simp) <;> (with_reducible rfl)
          try simp only [Act.put, List.setIfInBounds_toArray, List.set_cons_zero, List.set_cons_succ]
          refine wpAnyH_take (i := 3) (oi := ⟨some 62, _, _, _, _, _⟩) (v := ?_) rfl (by kernel_rfl) (by kernel_rfl) (by kernel_rfl) (fun _ _ _ h => h) (Or.inl ⟨by rfl, ?_⟩) (by assumption) ?_
          rotate_left 1
          · (intro w hSw; (try dsimp only at hSw); obtain ⟨hSa, hSb⟩ := hSw; go_simp) <;> (with_reducible rfl)
          try simp only [Act.put, List.setIfInBounds_toArray, List.set_cons_zero, List.set_cons_succ]
          refine wpAnyH_take (i := 5) (oi := ⟨some 64, _, _, _, _, _⟩) (v := ?_) rfl (by kernel_rfl) (by kernel_rfl) (by kernel_rfl) (fun _ _ _ h => h) (Or.inl ⟨by rfl, ?_⟩) (by assumption) ?_
          rotate_left 1
          · (intro w hSw; (try dsimp only at hSw); obtain ⟨hSa, hSb⟩ := hSw; go_simp) <;> (with_reducible rfl)
          try simp only [Act.put, List.setIfInBounds_toArray, List.set_cons_zero, List.set_cons_succ]
          refine wpAnyH_take (i := 6) (oi := ⟨some 65, _, _, _, _, _⟩) (v := ?_) rfl (by kernel_rfl) (by kernel_rfl) (by kernel_rfl) (fun _ _ _ h => h) (Or.inl ⟨by rfl, ?_⟩) (by assumption) ?_
          rotate_left 1
          · (intro w hSw; (try dsimp only at hSw); obtain ⟨hSa, hSb⟩ := hSw; go_simp) <;> (with_reducible rfl)
          try simp only [Act.put, List.setIfInBounds_toArray, List.set_cons_zero, List.set_cons_succ]
          refine wpAnyH_take (i := 8) (oi := ⟨some 67, _, _, _, _, _⟩) (v := ?_) rfl (by kernel_rfl) (by kernel_rfl) (by kernel_rfl) (fun _ _ _ h => h) (Or.inl ⟨by rfl, ?_⟩) (by assumption) ?_
          rotate_left 1
          · (intro w hSw; (try dsimp only at hSw); obtain ⟨hSa, hSb⟩ := hSw; go_simp) <;> (with_reducible rfl)
          try simp only [Act.put, List.setIfInBounds_toArray, List.set_cons_zero, List.set_cons_succ]
          refine wpAnyH_take (i := 9) (oi := ⟨some 68, _, _, _, _, _⟩) (v := ?_) rfl (by kernel_rfl) (by kernel_rfl) (by kernel_rfl) (fun _ _ _ h => h) (Or.inl ⟨by rfl, ?_⟩) (by assumption) ?_
          rotate_left 1
          · (intro w hSw; (try dsimp only at hSw); obtain ⟨hSa, hSb⟩ := hSw; go_simp) <;> (with_reducible rfl)
          try simp only [Act.put, List.setIfInBounds_toArray, List.set_cons_zero, List.set_cons_succ]
          refine wpAnyH_take (i := 10) (oi := ⟨some 69, _, _, _, _, _⟩) (v := ?_) rfl (by kernel_rfl) (by kernel_rfl) (by kernel_rfl) (fun _ _ _ h => h) (Or.inl ⟨by rfl, ?_⟩) (by assumption) ?_
          rotate_left 1
          · (intro w hSw; (try dsimp only at hSw); obtain ⟨hSa, hSb⟩ := hSw; go_simp) <;> (with_reducible rfl)
          try simp only [Act.put, List.setIfInBounds_toArray, List.set_cons_zero, List.set_cons_succ]
          refine wpAnyH_take (i := 11) (oi := ⟨some 70, _, _, _, _, _⟩) (v := ?_) rfl (by kernel_rfl) (by kernel_rfl) (by kernel_rfl) (fun _ _ _ h => h) (Or.inl ⟨by rfl, ?_⟩) (by assumption) ?_
          rotate_left 1
          · (intro w hSw; (try dsimp only at hSw); obtain ⟨hSa, hSb⟩ := hSw; go_simp) <;> (with_reducible rfl)
          try simp only [Act.put, List.setIfInBounds_toArray, List.set_cons_zero, List.set_cons_succ]
          refine wpAnyH_take (i := 13) (oi := ⟨some 72, _, _, _, _, _⟩) (v := ?_) rfl (by kernel_rfl) (by kernel_rfl) (by kernel_rfl) (fun _ _ _ h => h) (Or.inl ⟨by rfl, ?_⟩) (by assumption) ?_
          rotate_left 1
          · (intro w hSw; (try dsimp only at hSw); obtain ⟨hSa, hSb⟩ := hSw; go_simp) <;> (with_reducible rfl)
          try simp only [Act.put, List.setIfInBounds_toArray, List.set_cons_zero, List.set_cons_succ]
          refine wpAnyH_ready (rs := [4, 7]) (by kernel_rfl) (by simp) ?_
          refine AllReadyH.cons (o := ⟨some 63, _, _, _, _, _⟩) rfl (fun K hK => ?_) (AllReadyH.cons (o := ⟨some 66, _, _, _, _, _⟩) rfl (fun K hK => ?_) AllReadyH.nil)
          · go_simp
            refine hK.out _ _ ?_ (fun hHeld => ?_)
            · exact sD
            clear hK K
            try simp only [Act.put, List.setIfInBounds_toArray, List.set_cons_zero, List.set_cons_succ]
            refine wpAnyH_ready (rs := [7]) (by kernel_rfl) (by simp) ?_
            refine AllReadyH.cons (o := ⟨some 66, _, _, _, _, _⟩) rfl (fun K hK => ?_) AllReadyH.nil
            go_simp
            refine hK.out _ _ ?_ (fun hHeld => ?_)
            · exact sL
            clear hK K
            try simp only [Act.put, List.setIfInBounds_toArray, List.set_cons_zero, List.set_cons_succ]
            refine wpAnyH_ready (rs := [12]) (by kernel_rfl) (by simp) ?_
            refine AllReadyH.cons (o := ⟨some 71, _, _, _, _, _⟩) rfl (fun K hK => ?_) AllReadyH.nil
            refine step_app rfl _ _ 22 rfl wB.heap.size 5 i0 (.int .u8 0) 1 Tryd.underlying22 hi hz0 hz1 hz2 rfl (.slice (some ⟨wB.heap.size, 0, none⟩) 0 0) 0 [] rfl HNEW.out fa fc nn (cb (dt.take nn)) rfl HTL.out HDL.out.rd (cb_one _) HDL.out.nil (by unfold maxLen; omega) (by omega) HSL.out ?_
            intro v4 w4 ho4 hg4 _ _
            rw [Nat.zero_add, List.nil_append] at ho4
            obtain ⟨A4, c4, rfl, hc4, hA4⟩ := own_form ho4
            have HF4 : Hid (Fr NoBlk wB w4) := HFL.out.grown hg4 (fun k hk hlt => by
              have hk' : some wB.heap.size = some k := hk
              injection hk' with hk'
              omega)
            have HO4 := Lib.hid ho4
            have s4 := SF w4 HF4.out
            have o4 := OF w4 HF4.out
            clear ho4 hg4 hc4 hA4
            refine hK.out _ _ ?_ (fun hHeld => ?_)
            · exact s4
            clear hK K
            try simp only [Act.put, List.setIfInBounds_toArray, List.set_cons_zero, List.set_cons_succ]
            refine wpAnyH_take (i := 14) (oi := ⟨some 73, _, _, _, _, _⟩) (v := ?_) rfl (by kernel_rfl) (by kernel_rfl) (by kernel_rfl) (fun _ _ _ h => h) (Or.inl ⟨by rfl, ?_⟩) (by assumption) ?_
            rotate_left 1
            · (intro w hSw; (try dsimp only at hSw); go_simp) <;> (with_reducible rfl)
            try simp only [Act.put, List.setIfInBounds_toArray, List.set_cons_zero, List.set_cons_succ]
            refine wpAnyH_ready (rs := [15]) (by kernel_rfl) (by simp) ?_
            refine AllReadyH.cons (o := ⟨some 74, _, _, _, _, _⟩) rfl (fun K hK => ?_) AllReadyH.nil
            go_simp
            have HF5 : Hid (Fr NoBlk wB (w4.alloc (.cells #[.string (bstr nm), .slice A4 nn c4, .int .i64 nn] 54))) := HF4.out.alloc _
            have s5 := SF _ HF5.out
            have o5 := OF _ HF5.out
            refine hK.out _ _ ?_ (fun hHeld => ?_)
            · exact s5
            clear hK K
            try simp only [Act.put, List.setIfInBounds_toArray, List.set_cons_zero, List.set_cons_succ]
            refine wpAnyH_ready (rs := [16]) (by kernel_rfl) (by simp) ?_
            refine AllReadyH.cons (o := ⟨some 75, _, _, _, _, _⟩) rfl (fun K hK => ?_) AllReadyH.nil
            have HR5 : Hid (Rd (w4.alloc (.cells #[.string (bstr nm), .slice A4 nn c4, .int .i64 nn] 54)) (some ⟨w4.heap.size, 0, none⟩) [.string (bstr nm), .slice A4 nn c4, .int .i64 nn]) := Rd.of_cells (Bk.new _ _ _)
            have HOO : Hid ((w4.alloc (.cells #[.string (bstr nm), .slice A4 nn c4, .int .i64 nn] 54)).ownsRow w.heap.size 54 3 (.slice mo.FA mo.fs.length mo.FC) mo.fs.length (rfcs mo.fs)) := (HRO.out.nofr (HFB.out.trans HF5.out)).row
            have HSZ : Hid (w.heap.size ≤ (w4.alloc (.cells #[.string (bstr nm), .slice A4 nn c4, .int .i64 nn] 54)).heap.size) := Nat.le_trans HFW.out.size (HFB.out.trans HF5.out).size
            refine step_appO rfl _ _ 50 rfl w.heap.size 54 l0 _ 3 48 Tryd.underlying50 hl hl0 hl1 hl2 rfl (by decide) (.slice mo.FA mo.fs.length mo.FC) mo.fs.length (rfcs mo.fs) rfl HOO.out ⟨w4.heap.size, 0, none⟩ 1 1 [.string (bstr nm), .slice A4 nn c4, .int .i64 nn] rfl rfl HR5.out ?q1 ?q2 ?q3 HSZ.out ?_
            case q1 => intro u hu; simp only [List.mem_cons, List.not_mem_nil, or_false] at hu; rcases hu with rfl | rfl | rfl <;> rfl
            case q2 => have := HMOL.out; unfold maxLen; omega
            case q3 => have := HMOL.out; omega
            intro v6 w6 ho6 hg6 _
            obtain ⟨A6, c6, rfl, hc6, hA6⟩ := own_form ho6
            have HO6 := Lib.hid ho6
            have HG6 := Lib.hid hg6
            have HBO : Hid (Bk w6 w.heap.size 52 mo.cells) := by
              have hb5 := (HRO.out.nofr (HFB.out.trans HF5.out)).bk
              rw [HGO.out] at hb5
              exact hb5.fr (Fr.ofGrown hg6) (fun e => own_apart HOO.out hb5 (by decide) e.symm)
            have o6 : w6.cell? ⟨w.heap.size, 1, none⟩ = some (.slice mo.FA mo.fs.length mo.FC) := HBO.out.cell 1
            have o6f := HBO.out.free 1
            have s6 := SG w6 (by
              refine (HF5.out.mono (D := fun k => (Value.slice mo.FA mo.fs.length mo.FC).ownBlock = some k) (fun _ _ h => h.elim)).trans ?_
              exact (Fr.ofGrown hg6).mono fun k _ hk => hk.symm)
            have s7 := SH w6 (.slice A6 (mo.fs.length + 1) c6) s6
            clear ho6 hg6 hc6 hA6
            refine hK.out _ _ ?_ (fun hHeld => ?_)
            · exact s6
            clear hK K
            try simp only [Act.put, List.setIfInBounds_toArray, List.set_cons_zero, List.set_cons_succ]
            refine wpAnyH_take (i := 17) (oi := ⟨some 76, _, _, _, _, _⟩) (v := ?_) rfl (by kernel_rfl) (by kernel_rfl) (by kernel_rfl) (fun _ _ _ h => h) (Or.inl ⟨by rfl, ?_⟩) (by assumption) ?_
            rotate_left 1
            · (intro w hSw; (try dsimp only at hSw); go_simp) <;> (with_reducible rfl)
            try simp only [Act.put, List.setIfInBounds_toArray, List.set_cons_zero, List.set_cons_succ]
            refine wpAnyH_take (i := 18) (oi := ⟨some 77, _, _, _, _, _⟩) (v := ?_) rfl (by kernel_rfl) (by kernel_rfl) (by kernel_rfl) (fun _ _ _ h => h) (Or.inl ⟨by rfl, ?_⟩) (by assumption) ?_
            rotate_left 1
            · (intro w hSw; (try dsimp only at hSw); go_simp) <;> (with_reducible rfl)
            try simp only [Act.put, List.setIfInBounds_toArray, List.set_cons_zero, List.set_cons_succ]
            refine wpAnyH_ready (rs := [19]) (by kernel_rfl) (by simp) ?_
            refine AllReadyH.cons (o := ⟨none, _, _, _, _, _⟩) rfl (fun K hK => ?_) AllReadyH.nil
            go_simp
            refine hK.out _ _ ?_ (fun hHeld => ?_)
            · exact s7
            clear hK K
            try simp only [Act.put, List.setIfInBounds_toArray, List.set_cons_zero, List.set_cons_succ]
            refine wpAnyH_done (by kernel_rfl) ?_ _
            have HDY : Hid (DOk w4 w.heap.size A4 c4 (dt.take nn)) := DOk.ofOwn (n := nn) (own_base HO4.out (Nat.le_trans HFW.out.size HFB.out.size)) HNL.out.symm
            have HPU : Hid (RIn (w6.setCell ⟨mo.g, 1, none⟩ (.slice A6 (mo.fs.length + 1) c6)) w.heap.size { mo with FA := A6, FC := c6, fs := mo.fs ++ [⟨⟨nm, dt.take nn, nn⟩, A4, c4⟩] } ∧ Fr mo.own wr (w6.setCell ⟨mo.g, 1, none⟩ (.slice A6 (mo.fs.length + 1) c6))) := HRO.out.push (HFB.out.trans HF5.out) ⟨⟨nm, dt.take nn, nn⟩, A4, c4⟩ (HDY.out.nofr ((Fr.refl _ _).alloc _)) (by show World.ownsRow _ _ _ _ _ _ (rfcs mo.fs ++ [_, .slice A4 (dt.take nn).length c4, _]); rw [HNL.out]; exact HO6.out) HG6.out
            rw [HGO.out] at HPU
            have HFZ : Hid (Fr NoBlk w (w6.setCell ⟨w.heap.size, 1, none⟩ (.slice A6 (mo.fs.length + 1) c6))) := HFW.out.step HPU.out.2 fun k hk hc => by
              have := (HRO.out.own hc).1
              omega
            have HRZ := Lib.hid HPU.out.1
            have HMAP : Hid ((mo.fs ++ [(⟨⟨nm, dt.take nn, nn⟩, A4, c4⟩ : RF)]).map RF.pf = pcrashL (m.pfs.take (k + 1)) ks) := by
              show _ = _
              rw [List.map_append, HMO.out, HCR.out]
              rfl
            clear HPU HDY HO4 HO6 HG6 HBO HF4 HF5 HR5 HOO HSZ
            go_wp2_with fail
            go_roundw
            case rel => exact ⟨k + 1, _, by omega, by go_num, HRZ, HFZ, HMAP, by show (mo.fs ++ [_]).length = _; have := HMOL.out; rw [List.length_append]; simp; omega, rfl, HST⟩
            case measure => simp [intOf]; omega
          · go_simp
            refine hK.out _ _ ?_ (fun hHeld => ?_)
            · exact sL
            clear hK K
            try simp only [Act.put, List.setIfInBounds_toArray, List.set_cons_zero, List.set_cons_succ]
            refine wpAnyH_ready (rs := [4, 12]) (by kernel_rfl) (by simp) ?_
            refine AllReadyH.cons (o := ⟨some 63, _, _, _, _, _⟩) rfl (fun K hK => ?_) (AllReadyH.cons (o := ⟨some 71, _, _, _, _, _⟩) rfl (fun K hK => ?_) AllReadyH.nil)
            · go_simp
              refine hK.out _ _ ?_ (fun hHeld => ?_)
              · exact sL
              clear hK K
              try simp only [Act.put, List.setIfInBounds_toArray, List.set_cons_zero, List.set_cons_succ]
              refine wpAnyH_ready (rs := [12]) (by kernel_rfl) (by simp) ?_
              refine AllReadyH.cons (o := ⟨some 71, _, _, _, _, _⟩) rfl (fun K hK => ?_) AllReadyH.nil
              refine step_app rfl _ _ 22 rfl wB.heap.size 5 i0 (.int .u8 0) 1 Tryd.underlying22 hi hz0 hz1 hz2 rfl (.slice (some ⟨wB.heap.size, 0, none⟩) 0 0) 0 [] rfl HNEW.out fa fc nn (cb (dt.take nn)) rfl HTL.out HDL.out.rd (cb_one _) HDL.out.nil (by unfold maxLen; omega) (by omega) HSL.out ?_
              intro v4 w4 ho4 hg4 _ _
              rw [Nat.zero_add, List.nil_append] at ho4
              obtain ⟨A4, c4, rfl, hc4, hA4⟩ := own_form ho4
              have HF4 : Hid (Fr NoBlk wB w4) := HFL.out.grown hg4 (fun k hk hlt => by
                have hk' : some wB.heap.size = some k := hk
                injection hk' with hk'
                omega)
              have HO4 := Lib.hid ho4
              have s4 := SF w4 HF4.out
              have o4 := OF w4 HF4.out
              clear ho4 hg4 hc4 hA4
              refine hK.out _ _ ?_ (fun hHeld => ?_)
              · exact s4
              clear hK K
              try simp only [Act.put, List.setIfInBounds_toArray, List.set_cons_zero, List.set_cons_succ]
              refine wpAnyH_take (i := 14) (oi := ⟨some 73, _, _, _, _, _⟩) (v := ?_) rfl (by kernel_rfl) (by kernel_rfl) (by kernel_rfl) (fun _ _ _ h => h) (Or.inl ⟨by rfl, ?_⟩) (by assumption) ?_
              rotate_left 1
              · (intro w hSw; (try dsimp only at hSw); go_simp) <;> (with_reducible rfl)
              try simp only [Act.put, List.setIfInBounds_toArray, List.set_cons_zero, List.set_cons_succ]
              refine wpAnyH_ready (rs := [15]) (by kernel_rfl) (by simp) ?_
              refine AllReadyH.cons (o := ⟨some 74, _, _, _, _, _⟩) rfl (fun K hK => ?_) AllReadyH.nil
              go_simp
              have HF5 : Hid (Fr NoBlk wB (w4.alloc (.cells #[.string (bstr nm), .slice A4 nn c4, .int .i64 nn] 54))) := HF4.out.alloc _
              have s5 := SF _ HF5.out
              have o5 := OF _ HF5.out
              refine hK.out _ _ ?_ (fun hHeld => ?_)
              · exact s5
              clear hK K
              try simp only [Act.put, List.setIfInBounds_toArray, List.set_cons_zero, List.set_cons_succ]
              refine wpAnyH_ready (rs := [16]) (by kernel_rfl) (by simp) ?_
              refine AllReadyH.cons (o := ⟨some 75, _, _, _, _, _⟩) rfl (fun K hK => ?_) AllReadyH.nil
              have HR5 : Hid (Rd (w4.alloc (.cells #[.string (bstr nm), .slice A4 nn c4, .int .i64 nn] 54)) (some ⟨w4.heap.size, 0, none⟩) [.string (bstr nm), .slice A4 nn c4, .int .i64 nn]) := Rd.of_cells (Bk.new _ _ _)
              have HOO : Hid ((w4.alloc (.cells #[.string (bstr nm), .slice A4 nn c4, .int .i64 nn] 54)).ownsRow w.heap.size 54 3 (.slice mo.FA mo.fs.length mo.FC) mo.fs.length (rfcs mo.fs)) := (HRO.out.nofr (HFB.out.trans HF5.out)).row
              have HSZ : Hid (w.heap.size ≤ (w4.alloc (.cells #[.string (bstr nm), .slice A4 nn c4, .int .i64 nn] 54)).heap.size) := Nat.le_trans HFW.out.size (HFB.out.trans HF5.out).size
              refine step_appO rfl _ _ 50 rfl w.heap.size 54 l0 _ 3 48 Tryd.underlying50 hl hl0 hl1 hl2 rfl (by decide) (.slice mo.FA mo.fs.length mo.FC) mo.fs.length (rfcs mo.fs) rfl HOO.out ⟨w4.heap.size, 0, none⟩ 1 1 [.string (bstr nm), .slice A4 nn c4, .int .i64 nn] rfl rfl HR5.out ?q1 ?q2 ?q3 HSZ.out ?_
              case q1 => intro u hu; simp only [List.mem_cons, List.not_mem_nil, or_false] at hu; rcases hu with rfl | rfl | rfl <;> rfl
              case q2 => have := HMOL.out; unfold maxLen; omega
              case q3 => have := HMOL.out; omega
              intro v6 w6 ho6 hg6 _
              obtain ⟨A6, c6, rfl, hc6, hA6⟩ := own_form ho6
              have HO6 := Lib.hid ho6
              have HG6 := Lib.hid hg6
              have HBO : Hid (Bk w6 w.heap.size 52 mo.cells) := by
                have hb5 := (HRO.out.nofr (HFB.out.trans HF5.out)).bk
                rw [HGO.out] at hb5
                exact hb5.fr (Fr.ofGrown hg6) (fun e => own_apart HOO.out hb5 (by decide) e.symm)
              have o6 : w6.cell? ⟨w.heap.size, 1, none⟩ = some (.slice mo.FA mo.fs.length mo.FC) := HBO.out.cell 1
              have o6f := HBO.out.free 1
              have s6 := SG w6 (by
                refine (HF5.out.mono (D := fun k => (Value.slice mo.FA mo.fs.length mo.FC).ownBlock = some k) (fun _ _ h => h.elim)).trans ?_
                exact (Fr.ofGrown hg6).mono fun k _ hk => hk.symm)
              have s7 := SH w6 (.slice A6 (mo.fs.length + 1) c6) s6
              clear ho6 hg6 hc6 hA6
              refine hK.out _ _ ?_ (fun hHeld => ?_)
              · exact s6
              clear hK K
              try simp only [Act.put, List.setIfInBounds_toArray, List.set_cons_zero, List.set_cons_succ]
              refine wpAnyH_take (i := 17) (oi := ⟨some 76, _, _, _, _, _⟩) (v := ?_) rfl (by kernel_rfl) (by kernel_rfl) (by kernel_rfl) (fun _ _ _ h => h) (Or.inl ⟨by rfl, ?_⟩) (by assumption) ?_
              rotate_left 1
              · (intro w hSw; (try dsimp only at hSw); go_simp) <;> (with_reducible rfl)
              try simp only [Act.put, List.setIfInBounds_toArray, List.set_cons_zero, List.set_cons_succ]
              refine wpAnyH_take (i := 18) (oi := ⟨some 77, _, _, _, _, _⟩) (v := ?_) rfl (by kernel_rfl) (by kernel_rfl) (by kernel_rfl) (fun _ _ _ h => h) (Or.inl ⟨by rfl, ?_⟩) (by assumption) ?_
              rotate_left 1
              · (intro w hSw; (try dsimp only at hSw); go_simp) <;> (with_reducible rfl)
              try simp only [Act.put, List.setIfInBounds_toArray, List.set_cons_zero, List.set_cons_succ]
              refine wpAnyH_ready (rs := [19]) (by kernel_rfl) (by simp) ?_
              refine AllReadyH.cons (o := ⟨none, _, _, _, _, _⟩) rfl (fun K hK => ?_) AllReadyH.nil
              go_simp
              refine hK.out _ _ ?_ (fun hHeld => ?_)
              · exact s7
              clear hK K
              try simp only [Act.put, List.setIfInBounds_toArray, List.set_cons_zero, List.set_cons_succ]
              refine wpAnyH_done (by kernel_rfl) ?_ _
              have HDY : Hid (DOk w4 w.heap.size A4 c4 (dt.take nn)) := DOk.ofOwn (n := nn) (own_base HO4.out (Nat.le_trans HFW.out.size HFB.out.size)) HNL.out.symm
              have HPU : Hid (RIn (w6.setCell ⟨mo.g, 1, none⟩ (.slice A6 (mo.fs.length + 1) c6)) w.heap.size { mo with FA := A6, FC := c6, fs := mo.fs ++ [⟨⟨nm, dt.take nn, nn⟩, A4, c4⟩] } ∧ Fr mo.own wr (w6.setCell ⟨mo.g, 1, none⟩ (.slice A6 (mo.fs.length + 1) c6))) := HRO.out.push (HFB.out.trans HF5.out) ⟨⟨nm, dt.take nn, nn⟩, A4, c4⟩ (HDY.out.nofr ((Fr.refl _ _).alloc _)) (by show World.ownsRow _ _ _ _ _ _ (rfcs mo.fs ++ [_, .slice A4 (dt.take nn).length c4, _]); rw [HNL.out]; exact HO6.out) HG6.out
              rw [HGO.out] at HPU
              have HFZ : Hid (Fr NoBlk w (w6.setCell ⟨w.heap.size, 1, none⟩ (.slice A6 (mo.fs.length + 1) c6))) := HFW.out.step HPU.out.2 fun k hk hc => by
                have := (HRO.out.own hc).1
                omega
              have HRZ := Lib.hid HPU.out.1
              have HMAP : Hid ((mo.fs ++ [(⟨⟨nm, dt.take nn, nn⟩, A4, c4⟩ : RF)]).map RF.pf = pcrashL (m.pfs.take (k + 1)) ks) := by
                show _ = _
                rw [List.map_append, HMO.out, HCR.out]
                rfl
              clear HPU HDY HO4 HO6 HG6 HBO HF4 HF5 HR5 HOO HSZ
              go_wp2_with fail
              go_roundw
              case rel => exact ⟨k + 1, _, by omega, by go_num, HRZ, HFZ, HMAP, by show (mo.fs ++ [_]).length = _; have := HMOL.out; rw [List.length_append]; simp; omega, rfl, HST⟩
              case measure => simp [intOf]; omega
            · refine step_app rfl _ _ 22 rfl wB.heap.size 5 i0 (.int .u8 0) 1 Tryd.underlying22 hi hz0 hz1 hz2 rfl (.slice (some ⟨wB.heap.size, 0, none⟩) 0 0) 0 [] rfl HNEW.out fa fc nn (cb (dt.take nn)) rfl HTL.out HDL.out.rd (cb_one _) HDL.out.nil (by unfold maxLen; omega) (by omega) HSL.out ?_
              intro v4 w4 ho4 hg4 _ _
              rw [Nat.zero_add, List.nil_append] at ho4
              obtain ⟨A4, c4, rfl, hc4, hA4⟩ := own_form ho4
              have HF4 : Hid (Fr NoBlk wB w4) := HFL.out.grown hg4 (fun k hk hlt => by
                have hk' : some wB.heap.size = some k := hk
                injection hk' with hk'
                omega)
              have HO4 := Lib.hid ho4
              have s4 := SF w4 HF4.out
              have o4 := OF w4 HF4.out
              clear ho4 hg4 hc4 hA4
              refine hK.out _ _ ?_ (fun hHeld => ?_)
              · exact s4
              clear hK K
              try simp only [Act.put, List.setIfInBounds_toArray, List.set_cons_zero, List.set_cons_succ]
              refine wpAnyH_take (i := 14) (oi := ⟨some 73, _, _, _, _, _⟩) (v := ?_) rfl (by kernel_rfl) (by kernel_rfl) (by kernel_rfl) (fun _ _ _ h => h) (Or.inl ⟨by rfl, ?_⟩) (by assumption) ?_
              rotate_left 1
              · (intro w hSw; (try dsimp only at hSw); go_simp) <;> (with_reducible rfl)
              try simp only [Act.put, List.setIfInBounds_toArray, List.set_cons_zero, List.set_cons_succ]
              refine wpAnyH_ready (rs := [4, 15]) (by kernel_rfl) (by simp) ?_
              refine AllReadyH.cons (o := ⟨some 63, _, _, _, _, _⟩) rfl (fun K hK => ?_) (AllReadyH.cons (o := ⟨some 74, _, _, _, _, _⟩) rfl (fun K hK => ?_) AllReadyH.nil)
              · go_simp
                refine hK.out _ _ ?_ (fun hHeld => ?_)
                · exact s4
                clear hK K
                try simp only [Act.put, List.setIfInBounds_toArray, List.set_cons_zero, List.set_cons_succ]
                refine wpAnyH_ready (rs := [15]) (by kernel_rfl) (by simp) ?_
                refine AllReadyH.cons (o := ⟨some 74, _, _, _, _, _⟩) rfl (fun K hK => ?_) AllReadyH.nil
                go_simp
                have HF5 : Hid (Fr NoBlk wB (w4.alloc (.cells #[.string (bstr nm), .slice A4 nn c4, .int .i64 nn] 54))) := HF4.out.alloc _
                have s5 := SF _ HF5.out
                have o5 := OF _ HF5.out
                refine hK.out _ _ ?_ (fun hHeld => ?_)
                · exact s5
                clear hK K
                try simp only [Act.put, List.setIfInBounds_toArray, List.set_cons_zero, List.set_cons_succ]
                refine wpAnyH_ready (rs := [16]) (by kernel_rfl) (by simp) ?_
                refine AllReadyH.cons (o := ⟨some 75, _, _, _, _, _⟩) rfl (fun K hK => ?_) AllReadyH.nil
                have HR5 : Hid (Rd (w4.alloc (.cells #[.string (bstr nm), .slice A4 nn c4, .int .i64 nn] 54)) (some ⟨w4.heap.size, 0, none⟩) [.string (bstr nm), .slice A4 nn c4, .int .i64 nn]) := Rd.of_cells (Bk.new _ _ _)
                have HOO : Hid ((w4.alloc (.cells #[.string (bstr nm), .slice A4 nn c4, .int .i64 nn] 54)).ownsRow w.heap.size 54 3 (.slice mo.FA mo.fs.length mo.FC) mo.fs.length (rfcs mo.fs)) := (HRO.out.nofr (HFB.out.trans HF5.out)).row
                have HSZ : Hid (w.heap.size ≤ (w4.alloc (.cells #[.string (bstr nm), .slice A4 nn c4, .int .i64 nn] 54)).heap.size) := Nat.le_trans HFW.out.size (HFB.out.trans HF5.out).size
                refine step_appO rfl _ _ 50 rfl w.heap.size 54 l0 _ 3 48 Tryd.underlying50 hl hl0 hl1 hl2 rfl (by decide) (.slice mo.FA mo.fs.length mo.FC) mo.fs.length (rfcs mo.fs) rfl HOO.out ⟨w4.heap.size, 0, none⟩ 1 1 [.string (bstr nm), .slice A4 nn c4, .int .i64 nn] rfl rfl HR5.out ?q1 ?q2 ?q3 HSZ.out ?_
                case q1 => intro u hu; simp only [List.mem_cons, List.not_mem_nil, or_false] at hu; rcases hu with rfl | rfl | rfl <;> rfl
                case q2 => have := HMOL.out; unfold maxLen; omega
                case q3 => have := HMOL.out; omega
                intro v6 w6 ho6 hg6 _
                obtain ⟨A6, c6, rfl, hc6, hA6⟩ := own_form ho6
                have HO6 := Lib.hid ho6
                have HG6 := Lib.hid hg6
                have HBO : Hid (Bk w6 w.heap.size 52 mo.cells) := by
                  have hb5 := (HRO.out.nofr (HFB.out.trans HF5.out)).bk
                  rw [HGO.out] at hb5
                  exact hb5.fr (Fr.ofGrown hg6) (fun e => own_apart HOO.out hb5 (by decide) e.symm)
                have o6 : w6.cell? ⟨w.heap.size, 1, none⟩ = some (.slice mo.FA mo.fs.length mo.FC) := HBO.out.cell 1
                have o6f := HBO.out.free 1
                have s6 := SG w6 (by
                  refine (HF5.out.mono (D := fun k => (Value.slice mo.FA mo.fs.length mo.FC).ownBlock = some k) (fun _ _ h => h.elim)).trans ?_
                  exact (Fr.ofGrown hg6).mono fun k _ hk => hk.symm)
                have s7 := SH w6 (.slice A6 (mo.fs.length + 1) c6) s6
                clear ho6 hg6 hc6 hA6
                refine hK.out _ _ ?_ (fun hHeld => ?_)
                · exact s6
                clear hK K
                try simp only [Act.put, List.setIfInBounds_toArray, List.set_cons_zero, List.set_cons_succ]
                refine wpAnyH_take (i := 17) (oi := ⟨some 76, _, _, _, _, _⟩) (v := ?_) rfl (by kernel_rfl) (by kernel_rfl) (by kernel_rfl) (fun _ _ _ h => h) (Or.inl ⟨by rfl, ?_⟩) (by assumption) ?_
                rotate_left 1
                · (intro w hSw; (try dsimp only at hSw); go_simp) <;> (with_reducible rfl)
                try simp only [Act.put, List.setIfInBounds_toArray, List.set_cons_zero, List.set_cons_succ]
                refine wpAnyH_take (i := 18) (oi := ⟨some 77, _, _, _, _, _⟩) (v := ?_) rfl (by kernel_rfl) (by kernel_rfl) (by kernel_rfl) (fun _ _ _ h => h) (Or.inl ⟨by rfl, ?_⟩) (by assumption) ?_
                rotate_left 1
                · (intro w hSw; (try dsimp only at hSw); go_simp) <;> (with_reducible rfl)
                try simp only [Act.put, List.setIfInBounds_toArray, List.set_cons_zero, List.set_cons_succ]
                refine wpAnyH_ready (rs := [19]) (by kernel_rfl) (by simp) ?_
                refine AllReadyH.cons (o := ⟨none, _, _, _, _, _⟩) rfl (fun K hK => ?_) AllReadyH.nil
                go_simp
                refine hK.out _ _ ?_ (fun hHeld => ?_)
                · exact s7
                clear hK K
                try simp only [Act.put, List.setIfInBounds_toArray, List.set_cons_zero, List.set_cons_succ]
                refine wpAnyH_done (by kernel_rfl) ?_ _
                have HDY : Hid (DOk w4 w.heap.size A4 c4 (dt.take nn)) := DOk.ofOwn (n := nn) (own_base HO4.out (Nat.le_trans HFW.out.size HFB.out.size)) HNL.out.symm
                have HPU : Hid (RIn (w6.setCell ⟨mo.g, 1, none⟩ (.slice A6 (mo.fs.length + 1) c6)) w.heap.size { mo with FA := A6, FC := c6, fs := mo.fs ++ [⟨⟨nm, dt.take nn, nn⟩, A4, c4⟩] } ∧ Fr mo.own wr (w6.setCell ⟨mo.g, 1, none⟩ (.slice A6 (mo.fs.length + 1) c6))) := HRO.out.push (HFB.out.trans HF5.out) ⟨⟨nm, dt.take nn, nn⟩, A4, c4⟩ (HDY.out.nofr ((Fr.refl _ _).alloc _)) (by show World.ownsRow _ _ _ _ _ _ (rfcs mo.fs ++ [_, .slice A4 (dt.take nn).length c4, _]); rw [HNL.out]; exact HO6.out) HG6.out
                rw [HGO.out] at HPU
                have HFZ : Hid (Fr NoBlk w (w6.setCell ⟨w.heap.size, 1, none⟩ (.slice A6 (mo.fs.length + 1) c6))) := HFW.out.step HPU.out.2 fun k hk hc => by
                  have := (HRO.out.own hc).1
                  omega
                have HRZ := Lib.hid HPU.out.1
                have HMAP : Hid ((mo.fs ++ [(⟨⟨nm, dt.take nn, nn⟩, A4, c4⟩ : RF)]).map RF.pf = pcrashL (m.pfs.take (k + 1)) ks) := by
                  show _ = _
                  rw [List.map_append, HMO.out, HCR.out]
                  rfl
                clear HPU HDY HO4 HO6 HG6 HBO HF4 HF5 HR5 HOO HSZ
                go_wp2_with fail
                go_roundw
                case rel => exact ⟨k + 1, _, by omega, by go_num, HRZ, HFZ, HMAP, by show (mo.fs ++ [_]).length = _; have := HMOL.out; rw [List.length_append]; simp; omega, rfl, HST⟩
                case measure => simp [intOf]; omega
              · go_simp
                have HF5 : Hid (Fr NoBlk wB (w4.alloc (.cells #[.string (bstr nm), .slice A4 nn c4, .int .i64 nn] 54))) := HF4.out.alloc _
                have s5 := SF _ HF5.out
                have o5 := OF _ HF5.out
                refine hK.out _ _ ?_ (fun hHeld => ?_)
                · exact s5
                clear hK K
                try simp only [Act.put, List.setIfInBounds_toArray, List.set_cons_zero, List.set_cons_succ]
                refine wpAnyH_ready (rs := [4]) (by kernel_rfl) (by simp) ?_
                refine AllReadyH.cons (o := ⟨some 63, _, _, _, _, _⟩) rfl (fun K hK => ?_) AllReadyH.nil
                go_simp
                refine hK.out _ _ ?_ (fun hHeld => ?_)
                · exact s5
                clear hK K
                try simp only [Act.put, List.setIfInBounds_toArray, List.set_cons_zero, List.set_cons_succ]
                refine wpAnyH_ready (rs := [16]) (by kernel_rfl) (by simp) ?_
                refine AllReadyH.cons (o := ⟨some 75, _, _, _, _, _⟩) rfl (fun K hK => ?_) AllReadyH.nil
                have HR5 : Hid (Rd (w4.alloc (.cells #[.string (bstr nm), .slice A4 nn c4, .int .i64 nn] 54)) (some ⟨w4.heap.size, 0, none⟩) [.string (bstr nm), .slice A4 nn c4, .int .i64 nn]) := Rd.of_cells (Bk.new _ _ _)
                have HOO : Hid ((w4.alloc (.cells #[.string (bstr nm), .slice A4 nn c4, .int .i64 nn] 54)).ownsRow w.heap.size 54 3 (.slice mo.FA mo.fs.length mo.FC) mo.fs.length (rfcs mo.fs)) := (HRO.out.nofr (HFB.out.trans HF5.out)).row
                have HSZ : Hid (w.heap.size ≤ (w4.alloc (.cells #[.string (bstr nm), .slice A4 nn c4, .int .i64 nn] 54)).heap.size) := Nat.le_trans HFW.out.size (HFB.out.trans HF5.out).size
                refine step_appO rfl _ _ 50 rfl w.heap.size 54 l0 _ 3 48 Tryd.underlying50 hl hl0 hl1 hl2 rfl (by decide) (.slice mo.FA mo.fs.length mo.FC) mo.fs.length (rfcs mo.fs) rfl HOO.out ⟨w4.heap.size, 0, none⟩ 1 1 [.string (bstr nm), .slice A4 nn c4, .int .i64 nn] rfl rfl HR5.out ?q1 ?q2 ?q3 HSZ.out ?_
                case q1 => intro u hu; simp only [List.mem_cons, List.not_mem_nil, or_false] at hu; rcases hu with rfl | rfl | rfl <;> rfl
                case q2 => have := HMOL.out; unfold maxLen; omega
                case q3 => have := HMOL.out; omega
                intro v6 w6 ho6 hg6 _
                obtain ⟨A6, c6, rfl, hc6, hA6⟩ := own_form ho6
                have HO6 := Lib.hid ho6
                have HG6 := Lib.hid hg6
                have HBO : Hid (Bk w6 w.heap.size 52 mo.cells) := by
                  have hb5 := (HRO.out.nofr (HFB.out.trans HF5.out)).bk
                  rw [HGO.out] at hb5
                  exact hb5.fr (Fr.ofGrown hg6) (fun e => own_apart HOO.out hb5 (by decide) e.symm)
                have o6 : w6.cell? ⟨w.heap.size, 1, none⟩ = some (.slice mo.FA mo.fs.length mo.FC) := HBO.out.cell 1
                have o6f := HBO.out.free 1
                have s6 := SG w6 (by
                  refine (HF5.out.mono (D := fun k => (Value.slice mo.FA mo.fs.length mo.FC).ownBlock = some k) (fun _ _ h => h.elim)).trans ?_
                  exact (Fr.ofGrown hg6).mono fun k _ hk => hk.symm)
                have s7 := SH w6 (.slice A6 (mo.fs.length + 1) c6) s6
                clear ho6 hg6 hc6 hA6
                refine hK.out _ _ ?_ (fun hHeld => ?_)
                · exact s6
                clear hK K
                try simp only [Act.put, List.setIfInBounds_toArray, List.set_cons_zero, List.set_cons_succ]
                refine wpAnyH_take (i := 17) (oi := ⟨some 76, _, _, _, _, _⟩) (v := ?_) rfl (by kernel_rfl) (by kernel_rfl) (by kernel_rfl) (fun _ _ _ h => h) (Or.inl ⟨by rfl, ?_⟩) (by assumption) ?_
                rotate_left 1
                · (intro w hSw; (try dsimp only at hSw); go_simp) <;> (with_reducible rfl)
                try simp only [Act.put, List.setIfInBounds_toArray, List.set_cons_zero, List.set_cons_succ]
                refine wpAnyH_take (i := 18) (oi := ⟨some 77, _, _, _, _, _⟩) (v := ?_) rfl (by kernel_rfl) (by kernel_rfl) (by kernel_rfl) (fun _ _ _ h => h) (Or.inl ⟨by rfl, ?_⟩) (by assumption) ?_
                rotate_left 1
                · (intro w hSw; (try dsimp only at hSw); go_simp) <;> (with_reducible rfl)
                try simp only [Act.put, List.setIfInBounds_toArray, List.set_cons_zero, List.set_cons_succ]
                refine wpAnyH_ready (rs := [19]) (by kernel_rfl) (by simp) ?_
                refine AllReadyH.cons (o := ⟨none, _, _, _, _, _⟩) rfl (fun K hK => ?_) AllReadyH.nil
                go_simp
                refine hK.out _ _ ?_ (fun hHeld => ?_)
                · exact s7
                clear hK K
                try simp only [Act.put, List.setIfInBounds_toArray, List.set_cons_zero, List.set_cons_succ]
                refine wpAnyH_done (by kernel_rfl) ?_ _
                have HDY : Hid (DOk w4 w.heap.size A4 c4 (dt.take nn)) := DOk.ofOwn (n := nn) (own_base HO4.out (Nat.le_trans HFW.out.size HFB.out.size)) HNL.out.symm
                have HPU : Hid (RIn (w6.setCell ⟨mo.g, 1, none⟩ (.slice A6 (mo.fs.length + 1) c6)) w.heap.size { mo with FA := A6, FC := c6, fs := mo.fs ++ [⟨⟨nm, dt.take nn, nn⟩, A4, c4⟩] } ∧ Fr mo.own wr (w6.setCell ⟨mo.g, 1, none⟩ (.slice A6 (mo.fs.length + 1) c6))) := HRO.out.push (HFB.out.trans HF5.out) ⟨⟨nm, dt.take nn, nn⟩, A4, c4⟩ (HDY.out.nofr ((Fr.refl _ _).alloc _)) (by show World.ownsRow _ _ _ _ _ _ (rfcs mo.fs ++ [_, .slice A4 (dt.take nn).length c4, _]); rw [HNL.out]; exact HO6.out) HG6.out
                rw [HGO.out] at HPU
                have HFZ : Hid (Fr NoBlk w (w6.setCell ⟨w.heap.size, 1, none⟩ (.slice A6 (mo.fs.length + 1) c6))) := HFW.out.step HPU.out.2 fun k hk hc => by
                  have := (HRO.out.own hc).1
                  omega
                have HRZ := Lib.hid HPU.out.1
                have HMAP : Hid ((mo.fs ++ [(⟨⟨nm, dt.take nn, nn⟩, A4, c4⟩ : RF)]).map RF.pf = pcrashL (m.pfs.take (k + 1)) ks) := by
                  show _ = _
                  rw [List.map_append, HMO.out, HCR.out]
                  rfl
                clear HPU HDY HO4 HO6 HG6 HBO HF4 HF5 HR5 HOO HSZ
                go_wp2_with fail
                go_roundw
                case rel => exact ⟨k + 1, _, by omega, by go_num, HRZ, HFZ, HMAP, by show (mo.fs ++ [_]).length = _; have := HMOL.out; rw [List.length_append]; simp; omega, rfl, HST⟩
                case measure => simp [intOf]; omega
        · have hr := hmp (by omega)
          have e5 : IntKind.i64.wrap ((la : Int) + t) = (nn : Int) := by rw [IntWalk.i64_in _ (by omega)]; omega
          clear hmp hmn hr hnq
          go_wp2_with fail
          rw [← HWB.out]
          clear HWB q0 q1 q2 b2 c1
          refine wp_region_held_drew (S := fun w' => w'.cell? ⟨wr.heap.size, 0, none⟩ = some (.string (bstr nm)) ∧ w'.cell? ⟨wr.heap.size, 1, none⟩ = some (.slice fa dt.length fc)) (by kernel_rfl) (by exact sD) (fun hHeld => ?_)
          refine wpAnyH_take (i := 0) (oi := ⟨some 59, _, _, _, _, _⟩) (v := ?_) rfl (by kernel_rfl) (by kernel_rfl) (by kernel_rfl) (fun _ _ _ h => h) (Or.inl ⟨by rfl, ?_⟩) (by assumption) ?_
          rotate_left 1
          · (intro w hSw; (try dsimp only at hSw); obtain ⟨hSa, hSb⟩ := hSw; go_simp) <;> (with_reducible rfl)
          try simp only [Act.put, List.setIfInBounds_toArray, List.set_cons_zero, List.set_cons_succ]
          refine wpAnyH_take (i := 1) (oi := ⟨some 60, _, _, _, _, _⟩) (v := ?_) rfl (by kernel_rfl) (by kernel_rfl) (by kernel_rfl) (fun _ _ _ h => h) (Or.inl ⟨by rfl, ?_⟩) (by assumption) ?_
          rotate_left 1
          · (intro w hSw; (try dsimp only at hSw); obtain ⟨hSa, hSb⟩ := hSw; go_simp) <;> (with_reducible rfl)
          try simp only [Act.put, List.setIfInBounds_toArray, List.set_cons_zero, List.set_cons_succ]
          refine wpAnyH_take (i := 2) (oi := ⟨some 61, _, _, _, _, _⟩) (v := ?_) rfl (by kernel_rfl) (by kernel_rfl) (by kernel_rfl) (fun _ _ _ h => h) (Or.inl ⟨by rfl, ?_⟩) (by assumption) ?_
          rotate_left 1
          · (intro w hSw; (try dsimp only at hSw); obtain ⟨hSa, hSb⟩ := hSw; go_simp) <;> (with_reducible rfl)
          try simp only [Act.put, List.setIfInBounds_toArray, List.set_cons_zero, List.set_cons_succ]
          refine wpAnyH_take (i := 3) (oi := ⟨some 62, _, _, _, _, _⟩) (v := ?_) rfl (by kernel_rfl) (by kernel_rfl) (by kernel_rfl) (fun _ _ _ h => h) (Or.inl ⟨by rfl, ?_⟩) (by assumption) ?_
          rotate_left 1
          · (intro w hSw; (try dsimp only at hSw); obtain ⟨hSa, hSb⟩ := hSw; go_simp) <;> (with_reducible rfl)
          try simp only [Act.put, List.setIfInBounds_toArray, List.set_cons_zero, List.set_cons_succ]
          refine wpAnyH_take (i := 5) (oi := ⟨some 64, _, _, _, _, _⟩) (v := ?_) rfl (by kernel_rfl) (by kernel_rfl) (by kernel_rfl) (fun _ _ _ h => h) (Or.inl ⟨by rfl, ?_⟩) (by assumption) ?_
          rotate_left 1
          · (intro w hSw; (try dsimp only at hSw); obtain ⟨hSa, hSb⟩ := hSw; go_simp) <;> (with_reducible rfl)
          try simp only [Act.put, List.setIfInBounds_toArray, List.set_cons_zero, List.set_cons_succ]
          refine wpAnyH_take (i := 6) (oi := ⟨some 65, _, _, _, _, _⟩) (v := ?_) rfl (by kernel_rfl) (by kernel_rfl) (by kernel_rfl) (fun _ _ _ h => h) (Or.inl ⟨by rfl, ?_⟩) (by assumption) ?_
          rotate_left 1
          · (intro w hSw; (try dsimp only at hSw); obtain ⟨hSa, hSb⟩ := hSw; go_simp) <;> (with_reducible rfl)
          try simp only [Act.put, List.setIfInBounds_toArray, List.set_cons_zero, List.set_cons_succ]
          refine wpAnyH_take (i := 8) (oi := ⟨some 67, _, _, _, _, _⟩) (v := ?_) rfl (by kernel_rfl) (by kernel_rfl) (by kernel_rfl) (fun _ _ _ h => h) (Or.inl ⟨by rfl, ?_⟩) (by assumption) ?_
          rotate_left 1
          · (intro w hSw; (try dsimp only at hSw); obtain ⟨hSa, hSb⟩ := hSw; go_simp) <;> (with_reducible rfl)
          try simp only [Act.put, List.setIfInBounds_toArray, List.set_cons_zero, List.set_cons_succ]
          refine wpAnyH_take (i := 9) (oi := ⟨some 68, _, _, _, _, _⟩) (v := ?_) rfl (by kernel_rfl) (by kernel_rfl) (by kernel_rfl) (fun _ _ _ h => h) (Or.inl ⟨by rfl, ?_⟩) (by assumption) ?_
          rotate_left 1
          · (intro w hSw; (try dsimp only at hSw); obtain ⟨hSa, hSb⟩ := hSw; go_simp) <;> (with_reducible rfl)
          try simp only [Act.put, List.setIfInBounds_toArray, List.set_cons_zero, List.set_cons_succ]
          refine wpAnyH_take (i := 10) (oi := ⟨some 69, _, _, _, _, _⟩) (v := ?_) rfl (by kernel_rfl) (by kernel_rfl) (by kernel_rfl) (fun _ _ _ h => h) (Or.inl ⟨by rfl, ?_⟩) (by assumption) ?_
          rotate_left 1
          · (intro w hSw; (try dsimp only at hSw); obtain ⟨hSa, hSb⟩ := hSw; go_simp) <;> (with_reducible rfl)
          try simp only [Act.put, List.setIfInBounds_toArray, List.set_cons_zero, List.set_cons_succ]
          refine wpAnyH_take (i := 11) (oi := ⟨some 70, _, _, _, _, _⟩) (v := ?_) rfl (by kernel_rfl) (by kernel_rfl) (by kernel_rfl) (fun _ _ _ h => h) (Or.inl ⟨by rfl, ?_⟩) (by assumption) ?_
          rotate_left 1
          · (intro w hSw; (try dsimp only at hSw); obtain ⟨hSa, hSb⟩ := hSw; go_simp) <;> (with_reducible rfl)
          try simp only [Act.put, List.setIfInBounds_toArray, List.set_cons_zero, List.set_cons_succ]
          refine wpAnyH_take (i := 13) (oi := ⟨some 72, _, _, _, _, _⟩) (v := ?_) rfl (by kernel_rfl) (by kernel_rfl) (by kernel_rfl) (fun _ _ _ h => h) (Or.inl ⟨by rfl, ?_⟩) (by assumption) ?_
          rotate_left 1
          · (intro w hSw; (try dsimp only at hSw); obtain ⟨hSa, hSb⟩ := hSw; go_simp) <;> (with_reducible rfl)
          try simp only [Act.put, List.setIfInBounds_toArray, List.set_cons_zero, List.set_cons_succ]
          refine wpAnyH_ready (rs := [4, 7]) (by kernel_rfl) (by simp) ?_
          refine AllReadyH.cons (o := ⟨some 63, _, _, _, _, _⟩) rfl (fun K hK => ?_) (AllReadyH.cons (o := ⟨some 66, _, _, _, _, _⟩) rfl (fun K hK => ?_) AllReadyH.nil)
          · go_simp
            refine hK.out _ _ ?_ (fun hHeld => ?_)
            · exact sD
            clear hK K
            try simp only [Act.put, List.setIfInBounds_toArray, List.set_cons_zero, List.set_cons_succ]
            refine wpAnyH_ready (rs := [7]) (by kernel_rfl) (by simp) ?_
            refine AllReadyH.cons (o := ⟨some 66, _, _, _, _, _⟩) rfl (fun K hK => ?_) AllReadyH.nil
            go_simp
            refine hK.out _ _ ?_ (fun hHeld => ?_)
            · exact sL
            clear hK K
            try simp only [Act.put, List.setIfInBounds_toArray, List.set_cons_zero, List.set_cons_succ]
            refine wpAnyH_ready (rs := [12]) (by kernel_rfl) (by simp) ?_
            refine AllReadyH.cons (o := ⟨some 71, _, _, _, _, _⟩) rfl (fun K hK => ?_) AllReadyH.nil
            refine step_app rfl _ _ 22 rfl wB.heap.size 5 i0 (.int .u8 0) 1 Tryd.underlying22 hi hz0 hz1 hz2 rfl (.slice (some ⟨wB.heap.size, 0, none⟩) 0 0) 0 [] rfl HNEW.out fa fc nn (cb (dt.take nn)) rfl HTL.out HDL.out.rd (cb_one _) HDL.out.nil (by unfold maxLen; omega) (by omega) HSL.out ?_
            intro v4 w4 ho4 hg4 _ _
            rw [Nat.zero_add, List.nil_append] at ho4
            obtain ⟨A4, c4, rfl, hc4, hA4⟩ := own_form ho4
            have HF4 : Hid (Fr NoBlk wB w4) := HFL.out.grown hg4 (fun k hk hlt => by
              have hk' : some wB.heap.size = some k := hk
              injection hk' with hk'
              omega)
            have HO4 := Lib.hid ho4
            have s4 := SF w4 HF4.out
            have o4 := OF w4 HF4.out
            clear ho4 hg4 hc4 hA4
            refine hK.out _ _ ?_ (fun hHeld => ?_)
            · exact s4
            clear hK K
            try simp only [Act.put, List.setIfInBounds_toArray, List.set_cons_zero, List.set_cons_succ]
            refine wpAnyH_take (i := 14) (oi := ⟨some 73, _, _, _, _, _⟩) (v := ?_) rfl (by kernel_rfl) (by kernel_rfl) (by kernel_rfl) (fun _ _ _ h => h) (Or.inl ⟨by rfl, ?_⟩) (by assumption) ?_
            rotate_left 1
            · (intro w hSw; (try dsimp only at hSw); go_simp) <;> (with_reducible rfl)
            try simp only [Act.put, List.setIfInBounds_toArray, List.set_cons_zero, List.set_cons_succ]
            refine wpAnyH_ready (rs := [15]) (by kernel_rfl) (by simp) ?_
            refine AllReadyH.cons (o := ⟨some 74, _, _, _, _, _⟩) rfl (fun K hK => ?_) AllReadyH.nil
            go_simp
            have HF5 : Hid (Fr NoBlk wB (w4.alloc (.cells #[.string (bstr nm), .slice A4 nn c4, .int .i64 nn] 54))) := HF4.out.alloc _
            have s5 := SF _ HF5.out
            have o5 := OF _ HF5.out
            refine hK.out _ _ ?_ (fun hHeld => ?_)
            · exact s5
            clear hK K
            try simp only [Act.put, List.setIfInBounds_toArray, List.set_cons_zero, List.set_cons_succ]
            refine wpAnyH_ready (rs := [16]) (by kernel_rfl) (by simp) ?_
            refine AllReadyH.cons (o := ⟨some 75, _, _, _, _, _⟩) rfl (fun K hK => ?_) AllReadyH.nil
            have HR5 : Hid (Rd (w4.alloc (.cells #[.string (bstr nm), .slice A4 nn c4, .int .i64 nn] 54)) (some ⟨w4.heap.size, 0, none⟩) [.string (bstr nm), .slice A4 nn c4, .int .i64 nn]) := Rd.of_cells (Bk.new _ _ _)
            have HOO : Hid ((w4.alloc (.cells #[.string (bstr nm), .slice A4 nn c4, .int .i64 nn] 54)).ownsRow w.heap.size 54 3 (.slice mo.FA mo.fs.length mo.FC) mo.fs.length (rfcs mo.fs)) := (HRO.out.nofr (HFB.out.trans HF5.out)).row
            have HSZ : Hid (w.heap.size ≤ (w4.alloc (.cells #[.string (bstr nm), .slice A4 nn c4, .int .i64 nn] 54)).heap.size) := Nat.le_trans HFW.out.size (HFB.out.trans HF5.out).size
            refine step_appO rfl _ _ 50 rfl w.heap.size 54 l0 _ 3 48 Tryd.underlying50 hl hl0 hl1 hl2 rfl (by decide) (.slice mo.FA mo.fs.length mo.FC) mo.fs.length (rfcs mo.fs) rfl HOO.out ⟨w4.heap.size, 0, none⟩ 1 1 [.string (bstr nm), .slice A4 nn c4, .int .i64 nn] rfl rfl HR5.out ?q1 ?q2 ?q3 HSZ.out ?_
            case q1 => intro u hu; simp only [List.mem_cons, List.not_mem_nil, or_false] at hu; rcases hu with rfl | rfl | rfl <;> rfl
            case q2 => have := HMOL.out; unfold maxLen; omega
            case q3 => have := HMOL.out; omega
            intro v6 w6 ho6 hg6 _
            obtain ⟨A6, c6, rfl, hc6, hA6⟩ := own_form ho6
            have HO6 := Lib.hid ho6
            have HG6 := Lib.hid hg6
            have HBO : Hid (Bk w6 w.heap.size 52 mo.cells) := by
              have hb5 := (HRO.out.nofr (HFB.out.trans HF5.out)).bk
              rw [HGO.out] at hb5
              exact hb5.fr (Fr.ofGrown hg6) (fun e => own_apart HOO.out hb5 (by decide) e.symm)
            have o6 : w6.cell? ⟨w.heap.size, 1, none⟩ = some (.slice mo.FA mo.fs.length mo.FC) := HBO.out.cell 1
            have o6f := HBO.out.free 1
            have s6 := SG w6 (by
              refine (HF5.out.mono (D := fun k => (Value.slice mo.FA mo.fs.length mo.FC).ownBlock = some k) (fun _ _ h => h.elim)).trans ?_
              exact (Fr.ofGrown hg6).mono fun k _ hk => hk.symm)
            have s7 := SH w6 (.slice A6 (mo.fs.length + 1) c6) s6
            clear ho6 hg6 hc6 hA6
            refine hK.out _ _ ?_ (fun hHeld => ?_)
            · exact s6
            clear hK K
            try simp only [Act.put, List.setIfInBounds_toArray, List.set_cons_zero, List.set_cons_succ]
            refine wpAnyH_take (i := 17) (oi := ⟨some 76, _, _, _, _, _⟩) (v := ?_) rfl (by kernel_rfl) (by kernel_rfl) (by kernel_rfl) (fun _ _ _ h => h) (Or.inl ⟨by rfl, ?_⟩) (by assumption) ?_
            rotate_left 1
            · (intro w hSw; (try dsimp only at hSw); go_simp) <;> (with_reducible rfl)
            try simp only [Act.put, List.setIfInBounds_toArray, List.set_cons_zero, List.set_cons_succ]
            refine wpAnyH_take (i := 18) (oi := ⟨some 77, _, _, _, _, _⟩) (v := ?_) rfl (by kernel_rfl) (by kernel_rfl) (by kernel_rfl) (fun _ _ _ h => h) (Or.inl ⟨by rfl, ?_⟩) (by assumption) ?_
            rotate_left 1
            · (intro w hSw; (try dsimp only at hSw); go_simp) <;> (with_reducible rfl)
            try simp only [Act.put, List.setIfInBounds_toArray, List.set_cons_zero, List.set_cons_succ]
            refine wpAnyH_ready (rs := [19]) (by kernel_rfl) (by simp) ?_
            refine AllReadyH.cons (o := ⟨none, _, _, _, _, _⟩) rfl (fun K hK => ?_) AllReadyH.nil
            go_simp
            refine hK.out _ _ ?_ (fun hHeld => ?_)
            · exact s7
            clear hK K
            try simp only [Act.put, List.setIfInBounds_toArray, List.set_cons_zero, List.set_cons_succ]
            refine wpAnyH_done (by kernel_rfl) ?_ _
            have HDY : Hid (DOk w4 w.heap.size A4 c4 (dt.take nn)) := DOk.ofOwn (n := nn) (own_base HO4.out (Nat.le_trans HFW.out.size HFB.out.size)) HNL.out.symm
            have HPU : Hid (RIn (w6.setCell ⟨mo.g, 1, none⟩ (.slice A6 (mo.fs.length + 1) c6)) w.heap.size { mo with FA := A6, FC := c6, fs := mo.fs ++ [⟨⟨nm, dt.take nn, nn⟩, A4, c4⟩] } ∧ Fr mo.own wr (w6.setCell ⟨mo.g, 1, none⟩ (.slice A6 (mo.fs.length + 1) c6))) := HRO.out.push (HFB.out.trans HF5.out) ⟨⟨nm, dt.take nn, nn⟩, A4, c4⟩ (HDY.out.nofr ((Fr.refl _ _).alloc _)) (by show World.ownsRow _ _ _ _ _ _ (rfcs mo.fs ++ [_, .slice A4 (dt.take nn).length c4, _]); rw [HNL.out]; exact HO6.out) HG6.out
            rw [HGO.out] at HPU
            have HFZ : Hid (Fr NoBlk w (w6.setCell ⟨w.heap.size, 1, none⟩ (.slice A6 (mo.fs.length + 1) c6))) := HFW.out.step HPU.out.2 fun k hk hc => by
              have := (HRO.out.own hc).1
              omega
            have HRZ := Lib.hid HPU.out.1
            have HMAP : Hid ((mo.fs ++ [(⟨⟨nm, dt.take nn, nn⟩, A4, c4⟩ : RF)]).map RF.pf = pcrashL (m.pfs.take (k + 1)) ks) := by
              show _ = _
              rw [List.map_append, HMO.out, HCR.out]
              rfl
            clear HPU HDY HO4 HO6 HG6 HBO HF4 HF5 HR5 HOO HSZ
            go_wp2_with fail
            go_roundw
            case rel => exact ⟨k + 1, _, by omega, by go_num, HRZ, HFZ, HMAP, by show (mo.fs ++ [_]).length = _; have := HMOL.out; rw [List.length_append]; simp; omega, rfl, HST⟩
            case measure => simp [intOf]; omega
          · go_simp
            refine hK.out _ _ ?_ (fun hHeld => ?_)
            · exact sL
            clear hK K
            try simp only [Act.put, List.setIfInBounds_toArray, List.set_cons_zero, List.set_cons_succ]
            refine wpAnyH_ready (rs := [4, 12]) (by kernel_rfl) (by simp) ?_
            refine AllReadyH.cons (o := ⟨some 63, _, _, _, _, _⟩) rfl (fun K hK => ?_) (AllReadyH.cons (o := ⟨some 71, _, _, _, _, _⟩) rfl (fun K hK => ?_) AllReadyH.nil)
            · go_simp
              refine hK.out _ _ ?_ (fun hHeld => ?_)
              · exact sL
              clear hK K
              try simp only [Act.put, List.setIfInBounds_toArray, List.set_cons_zero, List.set_cons_succ]
              refine wpAnyH_ready (rs := [12]) (by kernel_rfl) (by simp) ?_
              refine AllReadyH.cons (o := ⟨some 71, _, _, _, _, _⟩) rfl (fun K hK => ?_) AllReadyH.nil
              refine step_app rfl _ _ 22 rfl wB.heap.size 5 i0 (.int .u8 0) 1 Tryd.underlying22 hi hz0 hz1 hz2 rfl (.slice (some ⟨wB.heap.size, 0, none⟩) 0 0) 0 [] rfl HNEW.out fa fc nn (cb (dt.take nn)) rfl HTL.out HDL.out.rd (cb_one _) HDL.out.nil (by unfold maxLen; omega) (by omega) HSL.out ?_
              intro v4 w4 ho4 hg4 _ _
              rw [Nat.zero_add, List.nil_append] at ho4
              obtain ⟨A4, c4, rfl, hc4, hA4⟩ := own_form ho4
              have HF4 : Hid (Fr NoBlk wB w4) := HFL.out.grown hg4 (fun k hk hlt => by
                have hk' : some wB.heap.size = some k := hk
                injection hk' with hk'
                omega)
              have HO4 := Lib.hid ho4
              have s4 := SF w4 HF4.out
              have o4 := OF w4 HF4.out
              clear ho4 hg4 hc4 hA4
              refine hK.out _ _ ?_ (fun hHeld => ?_)
              · exact s4
              clear hK K
              try simp only [Act.put, List.setIfInBounds_toArray, List.set_cons_zero, List.set_cons_succ]
              refine wpAnyH_take (i := 14) (oi := ⟨some 73, _, _, _, _, _⟩) (v := ?_) rfl (by kernel_rfl) (by kernel_rfl) (by kernel_rfl) (fun _ _ _ h => h) (Or.inl ⟨by rfl, ?_⟩) (by assumption) ?_
              rotate_left 1
              · (intro w hSw; (try dsimp only at hSw); go_simp) <;> (with_reducible rfl)
              try simp only [Act.put, List.setIfInBounds_toArray, List.set_cons_zero, List.set_cons_succ]
              refine wpAnyH_ready (rs := [15]) (by kernel_rfl) (by simp) ?_
              refine AllReadyH.cons (o := ⟨some 74, _, _, _, _, _⟩) rfl (fun K hK => ?_) AllReadyH.nil
              go_simp
              have HF5 : Hid (Fr NoBlk wB (w4.alloc (.cells #[.string (bstr nm), .slice A4 nn c4, .int .i64 nn] 54))) := HF4.out.alloc _
              have s5 := SF _ HF5.out
              have o5 := OF _ HF5.out
              refine hK.out _ _ ?_ (fun hHeld => ?_)
              · exact s5
              clear hK K
              try simp only [Act.put, List.setIfInBounds_toArray, List.set_cons_zero, List.set_cons_succ]
              refine wpAnyH_ready (rs := [16]) (by kernel_rfl) (by simp) ?_
              refine AllReadyH.cons (o := ⟨some 75, _, _, _, _, _⟩) rfl (fun K hK => ?_) AllReadyH.nil
              have HR5 : Hid (Rd (w4.alloc (.cells #[.string (bstr nm), .slice A4 nn c4, .int .i64 nn] 54)) (some ⟨w4.heap.size, 0, none⟩) [.string (bstr nm), .slice A4 nn c4, .int .i64 nn]) := Rd.of_cells (Bk.new _ _ _)
              have HOO : Hid ((w4.alloc (.cells #[.string (bstr nm), .slice A4 nn c4, .int .i64 nn] 54)).ownsRow w.heap.size 54 3 (.slice mo.FA mo.fs.length mo.FC) mo.fs.length (rfcs mo.fs)) := (HRO.out.nofr (HFB.out.trans HF5.out)).row
              have HSZ : Hid (w.heap.size ≤ (w4.alloc (.cells #[.string (bstr nm), .slice A4 nn c4, .int .i64 nn] 54)).heap.size) := Nat.le_trans HFW.out.size (HFB.out.trans HF5.out).size
              refine step_appO rfl _ _ 50 rfl w.heap.size 54 l0 _ 3 48 Tryd.underlying50 hl hl0 hl1 hl2 rfl (by decide) (.slice mo.FA mo.fs.length mo.FC) mo.fs.length (rfcs mo.fs) rfl HOO.out ⟨w4.heap.size, 0, none⟩ 1 1 [.string (bstr nm), .slice A4 nn c4, .int .i64 nn] rfl rfl HR5.out ?q1 ?q2 ?q3 HSZ.out ?_
              case q1 => intro u hu; simp only [List.mem_cons, List.not_mem_nil, or_false] at hu; rcases hu with rfl | rfl | rfl <;> rfl
              case q2 => have := HMOL.out; unfold maxLen; omega
              case q3 => have := HMOL.out; omega
              intro v6 w6 ho6 hg6 _
              obtain ⟨A6, c6, rfl, hc6, hA6⟩ := own_form ho6
              have HO6 := Lib.hid ho6
              have HG6 := Lib.hid hg6
              have HBO : Hid (Bk w6 w.heap.size 52 mo.cells) := by
                have hb5 := (HRO.out.nofr (HFB.out.trans HF5.out)).bk
                rw [HGO.out] at hb5
                exact hb5.fr (Fr.ofGrown hg6) (fun e => own_apart HOO.out hb5 (by decide) e.symm)
              have o6 : w6.cell? ⟨w.heap.size, 1, none⟩ = some (.slice mo.FA mo.fs.length mo.FC) := HBO.out.cell 1
              have o6f := HBO.out.free 1
              have s6 := SG w6 (by
                refine (HF5.out.mono (D := fun k => (Value.slice mo.FA mo.fs.length mo.FC).ownBlock = some k) (fun _ _ h => h.elim)).trans ?_
                exact (Fr.ofGrown hg6).mono fun k _ hk => hk.symm)
              have s7 := SH w6 (.slice A6 (mo.fs.length + 1) c6) s6
              clear ho6 hg6 hc6 hA6
              refine hK.out _ _ ?_ (fun hHeld => ?_)
              · exact s6
              clear hK K
              try simp only [Act.put, List.setIfInBounds_toArray, List.set_cons_zero, List.set_cons_succ]
              refine wpAnyH_take (i := 17) (oi := ⟨some 76, _, _, _, _, _⟩) (v := ?_) rfl (by kernel_rfl) (by kernel_rfl) (by kernel_rfl) (fun _ _ _ h => h) (Or.inl ⟨by rfl, ?_⟩) (by assumption) ?_
              rotate_left 1
              · (intro w hSw; (try dsimp only at hSw); go_simp) <;> (with_reducible rfl)
              try simp only [Act.put, List.setIfInBounds_toArray, List.set_cons_zero, List.set_cons_succ]
              refine wpAnyH_take (i := 18) (oi := ⟨some 77, _, _, _, _, _⟩) (v := ?_) rfl (by kernel_rfl) (by kernel_rfl) (by kernel_rfl) (fun _ _ _ h => h) (Or.inl ⟨by rfl, ?_⟩) (by assumption) ?_
              rotate_left 1
              · (intro w hSw; (try dsimp only at hSw); go_simp) <;> (with_reducible rfl)
              try simp only [Act.put, List.setIfInBounds_toArray, List.set_cons_zero, List.set_cons_succ]
              refine wpAnyH_ready (rs := [19]) (by kernel_rfl) (by simp) ?_
              refine AllReadyH.cons (o := ⟨none, _, _, _, _, _⟩) rfl (fun K hK => ?_) AllReadyH.nil
              go_simp
              refine hK.out _ _ ?_ (fun hHeld => ?_)
              · exact s7
              clear hK K
              try simp only [Act.put, List.setIfInBounds_toArray, List.set_cons_zero, List.set_cons_succ]
              refine wpAnyH_done (by kernel_rfl) ?_ _
              have HDY : Hid (DOk w4 w.heap.size A4 c4 (dt.take nn)) := DOk.ofOwn (n := nn) (own_base HO4.out (Nat.le_trans HFW.out.size HFB.out.size)) HNL.out.symm
              have HPU : Hid (RIn (w6.setCell ⟨mo.g, 1, none⟩ (.slice A6 (mo.fs.length + 1) c6)) w.heap.size { mo with FA := A6, FC := c6, fs := mo.fs ++ [⟨⟨nm, dt.take nn, nn⟩, A4, c4⟩] } ∧ Fr mo.own wr (w6.setCell ⟨mo.g, 1, none⟩ (.slice A6 (mo.fs.length + 1) c6))) := HRO.out.push (HFB.out.trans HF5.out) ⟨⟨nm, dt.take nn, nn⟩, A4, c4⟩ (HDY.out.nofr ((Fr.refl _ _).alloc _)) (by show World.ownsRow _ _ _ _ _ _ (rfcs mo.fs ++ [_, .slice A4 (dt.take nn).length c4, _]); rw [HNL.out]; exact HO6.out) HG6.out
              rw [HGO.out] at HPU
              have HFZ : Hid (Fr NoBlk w (w6.setCell ⟨w.heap.size, 1, none⟩ (.slice A6 (mo.fs.length + 1) c6))) := HFW.out.step HPU.out.2 fun k hk hc => by
                have := (HRO.out.own hc).1
                omega
              have HRZ := Lib.hid HPU.out.1
              have HMAP : Hid ((mo.fs ++ [(⟨⟨nm, dt.take nn, nn⟩, A4, c4⟩ : RF)]).map RF.pf = pcrashL (m.pfs.take (k + 1)) ks) := by
                show _ = _
                rw [List.map_append, HMO.out, HCR.out]
                rfl
              clear HPU HDY HO4 HO6 HG6 HBO HF4 HF5 HR5 HOO HSZ
              go_wp2_with fail
              go_roundw
              case rel => exact ⟨k + 1, _, by omega, by go_num, HRZ, HFZ, HMAP, by show (mo.fs ++ [_]).length = _; have := HMOL.out; rw [List.length_append]; simp; omega, rfl, HST⟩
              case measure => simp [intOf]; omega
            · refine step_app rfl _ _ 22 rfl wB.heap.size 5 i0 (.int .u8 0) 1 Tryd.underlying22 hi hz0 hz1 hz2 rfl (.slice (some ⟨wB.heap.size, 0, none⟩) 0 0) 0 [] rfl HNEW.out fa fc nn (cb (dt.take nn)) rfl HTL.out HDL.out.rd (cb_one _) HDL.out.nil (by unfold maxLen; omega) (by omega) HSL.out ?_
              intro v4 w4 ho4 hg4 _ _
              rw [Nat.zero_add, List.nil_append] at ho4
              obtain ⟨A4, c4, rfl, hc4, hA4⟩ := own_form ho4
              have HF4 : Hid (Fr NoBlk wB w4) := HFL.out.grown hg4 (fun k hk hlt => by
                have hk' : some wB.heap.size = some k := hk
                injection hk' with hk'
                omega)
              have HO4 := Lib.hid ho4
              have s4 := SF w4 HF4.out
              have o4 := OF w4 HF4.out
              clear ho4 hg4 hc4 hA4
              refine hK.out _ _ ?_ (fun hHeld => ?_)
              · exact s4
              clear hK K
              try simp only [Act.put, List.setIfInBounds_toArray, List.set_cons_zero, List.set_cons_succ]
              refine wpAnyH_take (i := 14) (oi := ⟨some 73, _, _, _, _, _⟩) (v := ?_) rfl (by kernel_rfl) (by kernel_rfl) (by kernel_rfl) (fun _ _ _ h => h) (Or.inl ⟨by rfl, ?_⟩) (by assumption) ?_
              rotate_left 1
              · (intro w hSw; (try dsimp only at hSw); go_simp) <;> (with_reducible rfl)
              try simp only [Act.put, List.setIfInBounds_toArray, List.set_cons_zero, List.set_cons_succ]
              refine wpAnyH_ready (rs := [4, 15]) (by kernel_rfl) (by simp) ?_
              refine AllReadyH.cons (o := ⟨some 63, _, _, _, _, _⟩) rfl (fun K hK => ?_) (AllReadyH.cons (o := ⟨some 74, _, _, _, _, _⟩) rfl (fun K hK => ?_) AllReadyH.nil)
              · go_simp
                refine hK.out _ _ ?_ (fun hHeld => ?_)
                · exact s4
                clear hK K
                try simp only [Act.put, List.setIfInBounds_toArray, List.set_cons_zero, List.set_cons_succ]
                refine wpAnyH_ready (rs := [15]) (by kernel_rfl) (by simp) ?_
                refine AllReadyH.cons (o := ⟨some 74, _, _, _, _, _⟩) rfl (fun K hK => ?_) AllReadyH.nil
                go_simp
                have HF5 : Hid (Fr NoBlk wB (w4.alloc (.cells #[.string (bstr nm), .slice A4 nn c4, .int .i64 nn] 54))) := HF4.out.alloc _
                have s5 := SF _ HF5.out
                have o5 := OF _ HF5.out
                refine hK.out _ _ ?_ (fun hHeld => ?_)
                · exact s5
                clear hK K
                try simp only [Act.put, List.setIfInBounds_toArray, List.set_cons_zero, List.set_cons_succ]
                refine wpAnyH_ready (rs := [16]) (by kernel_rfl) (by simp) ?_
                refine AllReadyH.cons (o := ⟨some 75, _, _, _, _, _⟩) rfl (fun K hK => ?_) AllReadyH.nil
                have HR5 : Hid (Rd (w4.alloc (.cells #[.string (bstr nm), .slice A4 nn c4, .int .i64 nn] 54)) (some ⟨w4.heap.size, 0, none⟩) [.string (bstr nm), .slice A4 nn c4, .int .i64 nn]) := Rd.of_cells (Bk.new _ _ _)
                have HOO : Hid ((w4.alloc (.cells #[.string (bstr nm), .slice A4 nn c4, .int .i64 nn] 54)).ownsRow w.heap.size 54 3 (.slice mo.FA mo.fs.length mo.FC) mo.fs.length (rfcs mo.fs)) := (HRO.out.nofr (HFB.out.trans HF5.out)).row
                have HSZ : Hid (w.heap.size ≤ (w4.alloc (.cells #[.string (bstr nm), .slice A4 nn c4, .int .i64 nn] 54)).heap.size) := Nat.le_trans HFW.out.size (HFB.out.trans HF5.out).size
                refine step_appO rfl _ _ 50 rfl w.heap.size 54 l0 _ 3 48 Tryd.underlying50 hl hl0 hl1 hl2 rfl (by decide) (.slice mo.FA mo.fs.length mo.FC) mo.fs.length (rfcs mo.fs) rfl HOO.out ⟨w4.heap.size, 0, none⟩ 1 1 [.string (bstr nm), .slice A4 nn c4, .int .i64 nn] rfl rfl HR5.out ?q1 ?q2 ?q3 HSZ.out ?_
                case q1 => intro u hu; simp only [List.mem_cons, List.not_mem_nil, or_false] at hu; rcases hu with rfl | rfl | rfl <;> rfl
                case q2 => have := HMOL.out; unfold maxLen; omega
                case q3 => have := HMOL.out; omega
                intro v6 w6 ho6 hg6 _
                obtain ⟨A6, c6, rfl, hc6, hA6⟩ := own_form ho6
                have HO6 := Lib.hid ho6
                have HG6 := Lib.hid hg6
                have HBO : Hid (Bk w6 w.heap.size 52 mo.cells) := by
                  have hb5 := (HRO.out.nofr (HFB.out.trans HF5.out)).bk
                  rw [HGO.out] at hb5
                  exact hb5.fr (Fr.ofGrown hg6) (fun e => own_apart HOO.out hb5 (by decide) e.symm)
                have o6 : w6.cell? ⟨w.heap.size, 1, none⟩ = some (.slice mo.FA mo.fs.length mo.FC) := HBO.out.cell 1
                have o6f := HBO.out.free 1
                have s6 := SG w6 (by
                  refine (HF5.out.mono (D := fun k => (Value.slice mo.FA mo.fs.length mo.FC).ownBlock = some k) (fun _ _ h => h.elim)).trans ?_
                  exact (Fr.ofGrown hg6).mono fun k _ hk => hk.symm)
                have s7 := SH w6 (.slice A6 (mo.fs.length + 1) c6) s6
                clear ho6 hg6 hc6 hA6
                refine hK.out _ _ ?_ (fun hHeld => ?_)
                · exact s6
                clear hK K
                try simp only [Act.put, List.setIfInBounds_toArray, List.set_cons_zero, List.set_cons_succ]
                refine wpAnyH_take (i := 17) (oi := ⟨some 76, _, _, _, _, _⟩) (v := ?_) rfl (by kernel_rfl) (by kernel_rfl) (by kernel_rfl) (fun _ _ _ h => h) (Or.inl ⟨by rfl, ?_⟩) (by assumption) ?_
                rotate_left 1
                · (intro w hSw; (try dsimp only at hSw); go_simp) <;> (with_reducible rfl)
                try simp only [Act.put, List.setIfInBounds_toArray, List.set_cons_zero, List.set_cons_succ]
                refine wpAnyH_take (i := 18) (oi := ⟨some 77, _, _, _, _, _⟩) (v := ?_) rfl (by kernel_rfl) (by kernel_rfl) (by kernel_rfl) (fun _ _ _ h => h) (Or.inl ⟨by rfl, ?_⟩) (by assumption) ?_
                rotate_left 1
                · (intro w hSw; (try dsimp only at hSw); go_simp) <;> (with_reducible rfl)
                try simp only [Act.put, List.setIfInBounds_toArray, List.set_cons_zero, List.set_cons_succ]
                refine wpAnyH_ready (rs := [19]) (by kernel_rfl) (by simp) ?_
                refine AllReadyH.cons (o := ⟨none, _, _, _, _, _⟩) rfl (fun K hK => ?_) AllReadyH.nil
                go_simp
                refine hK.out _ _ ?_ (fun hHeld => ?_)
                · exact s7
                clear hK K
                try simp only [Act.put, List.setIfInBounds_toArray, List.set_cons_zero, List.set_cons_succ]
                refine wpAnyH_done (by kernel_rfl) ?_ _
                have HDY : Hid (DOk w4 w.heap.size A4 c4 (dt.take nn)) := DOk.ofOwn (n := nn) (own_base HO4.out (Nat.le_trans HFW.out.size HFB.out.size)) HNL.out.symm
                have HPU : Hid (RIn (w6.setCell ⟨mo.g, 1, none⟩ (.slice A6 (mo.fs.length + 1) c6)) w.heap.size { mo with FA := A6, FC := c6, fs := mo.fs ++ [⟨⟨nm, dt.take nn, nn⟩, A4, c4⟩] } ∧ Fr mo.own wr (w6.setCell ⟨mo.g, 1, none⟩ (.slice A6 (mo.fs.length + 1) c6))) := HRO.out.push (HFB.out.trans HF5.out) ⟨⟨nm, dt.take nn, nn⟩, A4, c4⟩ (HDY.out.nofr ((Fr.refl _ _).alloc _)) (by show World.ownsRow _ _ _ _ _ _ (rfcs mo.fs ++ [_, .slice A4 (dt.take nn).length c4, _]); rw [HNL.out]; exact HO6.out) HG6.out
                rw [HGO.out] at HPU
                have HFZ : Hid (Fr NoBlk w (w6.setCell ⟨w.heap.size, 1, none⟩ (.slice A6 (mo.fs.length + 1) c6))) := HFW.out.step HPU.out.2 fun k hk hc => by
                  have := (HRO.out.own hc).1
                  omega
                have HRZ := Lib.hid HPU.out.1
                have HMAP : Hid ((mo.fs ++ [(⟨⟨nm, dt.take nn, nn⟩, A4, c4⟩ : RF)]).map RF.pf = pcrashL (m.pfs.take (k + 1)) ks) := by
                  show _ = _
                  rw [List.map_append, HMO.out, HCR.out]
                  rfl
                clear HPU HDY HO4 HO6 HG6 HBO HF4 HF5 HR5 HOO HSZ
                go_wp2_with fail
                go_roundw
                case rel => exact ⟨k + 1, _, by omega, by go_num, HRZ, HFZ, HMAP, by show (mo.fs ++ [_]).length = _; have := HMOL.out; rw [List.length_append]; simp; omega, rfl, HST⟩
                case measure => simp [intOf]; omega
              · go_simp
                have HF5 : Hid (Fr NoBlk wB (w4.alloc (.cells #[.string (bstr nm), .slice A4 nn c4, .int .i64 nn] 54))) := HF4.out.alloc _
                have s5 := SF _ HF5.out
                have o5 := OF _ HF5.out
                refine hK.out _ _ ?_ (fun hHeld => ?_)
                · exact s5
                clear hK K
                try simp only [Act.put, List.setIfInBounds_toArray, List.set_cons_zero, List.set_cons_succ]
                refine wpAnyH_ready (rs := [4]) (by kernel_rfl) (by simp) ?_
                refine AllReadyH.cons (o := ⟨some 63, _, _, _, _, _⟩) rfl (fun K hK => ?_) AllReadyH.nil
                go_simp
                refine hK.out _ _ ?_ (fun hHeld => ?_)
                · exact s5
                clear hK K
                try simp only [Act.put, List.setIfInBounds_toArray, List.set_cons_zero, List.set_cons_succ]
                refine wpAnyH_ready (rs := [16]) (by kernel_rfl) (by simp) ?_
                refine AllReadyH.cons (o := ⟨some 75, _, _, _, _, _⟩) rfl (fun K hK => ?_) AllReadyH.nil
                have HR5 : Hid (Rd (w4.alloc (.cells #[.string (bstr nm), .slice A4 nn c4, .int .i64 nn] 54)) (some ⟨w4.heap.size, 0, none⟩) [.string (bstr nm), .slice A4 nn c4, .int .i64 nn]) := Rd.of_cells (Bk.new _ _ _)
                have HOO : Hid ((w4.alloc (.cells #[.string (bstr nm), .slice A4 nn c4, .int .i64 nn] 54)).ownsRow w.heap.size 54 3 (.slice mo.FA mo.fs.length mo.FC) mo.fs.length (rfcs mo.fs)) := (HRO.out.nofr (HFB.out.trans HF5.out)).row
                have HSZ : Hid (w.heap.size ≤ (w4.alloc (.cells #[.string (bstr nm), .slice A4 nn c4, .int .i64 nn] 54)).heap.size) := Nat.le_trans HFW.out.size (HFB.out.trans HF5.out).size
                refine step_appO rfl _ _ 50 rfl w.heap.size 54 l0 _ 3 48 Tryd.underlying50 hl hl0 hl1 hl2 rfl (by decide) (.slice mo.FA mo.fs.length mo.FC) mo.fs.length (rfcs mo.fs) rfl HOO.out ⟨w4.heap.size, 0, none⟩ 1 1 [.string (bstr nm), .slice A4 nn c4, .int .i64 nn] rfl rfl HR5.out ?q1 ?q2 ?q3 HSZ.out ?_
                case q1 => intro u hu; simp only [List.mem_cons, List.not_mem_nil, or_false] at hu; rcases hu with rfl | rfl | rfl <;> rfl
                case q2 => have := HMOL.out; unfold maxLen; omega
                case q3 => have := HMOL.out; omega
                intro v6 w6 ho6 hg6 _
                obtain ⟨A6, c6, rfl, hc6, hA6⟩ := own_form ho6
                have HO6 := Lib.hid ho6
                have HG6 := Lib.hid hg6
                have HBO : Hid (Bk w6 w.heap.size 52 mo.cells) := by
                  have hb5 := (HRO.out.nofr (HFB.out.trans HF5.out)).bk
                  rw [HGO.out] at hb5
                  exact hb5.fr (Fr.ofGrown hg6) (fun e => own_apart HOO.out hb5 (by decide) e.symm)
                have o6 : w6.cell? ⟨w.heap.size, 1, none⟩ = some (.slice mo.FA mo.fs.length mo.FC) := HBO.out.cell 1
                have o6f := HBO.out.free 1
                have s6 := SG w6 (by
                  refine (HF5.out.mono (D := fun k => (Value.slice mo.FA mo.fs.length mo.FC).ownBlock = some k) (fun _ _ h => h.elim)).trans ?_
                  exact (Fr.ofGrown hg6).mono fun k _ hk => hk.symm)
                have s7 := SH w6 (.slice A6 (mo.fs.length + 1) c6) s6
                clear ho6 hg6 hc6 hA6
                refine hK.out _ _ ?_ (fun hHeld => ?_)
                · exact s6
                clear hK K
                try simp only [Act.put, List.setIfInBounds_toArray, List.set_cons_zero, List.set_cons_succ]
                refine wpAnyH_take (i := 17) (oi := ⟨some 76, _, _, _, _, _⟩) (v := ?_) rfl (by kernel_rfl) (by kernel_rfl) (by kernel_rfl) (fun _ _ _ h => h) (Or.inl ⟨by rfl, ?_⟩) (by assumption) ?_
                rotate_left 1
                · (intro w hSw; (try dsimp only at hSw); go_simp) <;> (with_reducible rfl)
                try simp only [Act.put, List.setIfInBounds_toArray, List.set_cons_zero, List.set_cons_succ]
                refine wpAnyH_take (i := 18) (oi := ⟨some 77, _, _, _, _, _⟩) (v := ?_) rfl (by kernel_rfl) (by kernel_rfl) (by kernel_rfl) (fun _ _ _ h => h) (Or.inl ⟨by rfl, ?_⟩) (by assumption) ?_
                rotate_left 1
                · (intro w hSw; (try dsimp only at hSw); go_simp) <;> (with_reducible rfl)
                try simp only [Act.put, List.setIfInBounds_toArray, List.set_cons_zero, List.set_cons_succ]
                refine wpAnyH_ready (rs := [19]) (by kernel_rfl) (by simp) ?_
                refine AllReadyH.cons (o := ⟨none, _, _, _, _, _⟩) rfl (fun K hK => ?_) AllReadyH.nil
                go_simp
                refine hK.out _ _ ?_ (fun hHeld => ?_)
                · exact s7
                clear hK K
                try simp only [Act.put, List.setIfInBounds_toArray, List.set_cons_zero, List.set_cons_succ]
                refine wpAnyH_done (by kernel_rfl) ?_ _
                have HDY : Hid (DOk w4 w.heap.size A4 c4 (dt.take nn)) := DOk.ofOwn (n := nn) (own_base HO4.out (Nat.le_trans HFW.out.size HFB.out.size)) HNL.out.symm
                have HPU : Hid (RIn (w6.setCell ⟨mo.g, 1, none⟩ (.slice A6 (mo.fs.length + 1) c6)) w.heap.size { mo with FA := A6, FC := c6, fs := mo.fs ++ [⟨⟨nm, dt.take nn, nn⟩, A4, c4⟩] } ∧ Fr mo.own wr (w6.setCell ⟨mo.g, 1, none⟩ (.slice A6 (mo.fs.length + 1) c6))) := HRO.out.push (HFB.out.trans HF5.out) ⟨⟨nm, dt.take nn, nn⟩, A4, c4⟩ (HDY.out.nofr ((Fr.refl _ _).alloc _)) (by show World.ownsRow _ _ _ _ _ _ (rfcs mo.fs ++ [_, .slice A4 (dt.take nn).length c4, _]); rw [HNL.out]; exact HO6.out) HG6.out
                rw [HGO.out] at HPU
                have HFZ : Hid (Fr NoBlk w (w6.setCell ⟨w.heap.size, 1, none⟩ (.slice A6 (mo.fs.length + 1) c6))) := HFW.out.step HPU.out.2 fun k hk hc => by
                  have := (HRO.out.own hc).1
                  omega
                have HRZ := Lib.hid HPU.out.1
                have HMAP : Hid ((mo.fs ++ [(⟨⟨nm, dt.take nn, nn⟩, A4, c4⟩ : RF)]).map RF.pf = pcrashL (m.pfs.take (k + 1)) ks) := by
                  show _ = _
                  rw [List.map_append, HMO.out, HCR.out]
                  rfl
                clear HPU HDY HO4 HO6 HG6 HBO HF4 HF5 HR5 HOO HSZ
                go_wp2_with fail
                go_roundw
                case rel => exact ⟨k + 1, _, by omega, by go_num, HRZ, HFZ, HMAP, by show (mo.fs ++ [_]).length = _; have := HMOL.out; rw [List.length_append]; simp; omega, rfl, HST⟩
                case measure => simp [intOf]; omega
      · have hx0 : x = 0 := by
          rw [HXX.out, List.getD_eq_getElem?_getD, List.getElem?_eq_none (by omega)]; rfl
        subst hx0
        rw [Int.zero_emod, Int.add_zero] at hnq
        obtain rfl : nn = la := by omega
        have e5 : IntKind.i64.wrap (nn : Int) = (nn : Int) := IntWalk.i64_in _ (by omega)
        have e6 : IntKind.i64.wrap ((nn : Int) + 0) = (nn : Int) := by rw [Int.add_zero]; exact e5
        clear hnq
        go_wp2_with fail
        rw [← HWB.out]
        clear HWB q0 q1 q2 b2 c1
        refine wp_region_held_drew (S := fun w' => w'.cell? ⟨wr.heap.size, 0, none⟩ = some (.string (bstr nm)) ∧ w'.cell? ⟨wr.heap.size, 1, none⟩ = some (.slice fa dt.length fc)) (by kernel_rfl) (by exact sD) (fun hHeld => ?_)
        refine wpAnyH_take (i := 0) (oi := ⟨some 59, _, _, _, _, _⟩) (v := ?_) rfl (by kernel_rfl) (by kernel_rfl) (by kernel_rfl) (fun _ _ _ h => h) (Or.inl ⟨by rfl, ?_⟩) (by assumption) ?_
        rotate_left 1
        · (intro w hSw; (try dsimp only at hSw); obtain ⟨hSa, hSb⟩ := hSw; go_simp) <;> (with_reducible rfl)
        try simp only [Act.put, List.setIfInBounds_toArray, List.set_cons_zero, List.set_cons_succ]
        refine wpAnyH_take (i := 1) (oi := ⟨some 60, _, _, _, _, _⟩) (v := ?_) rfl (by kernel_rfl) (by kernel_rfl) (by kernel_rfl) (fun _ _ _ h => h) (Or.inl ⟨by rfl, ?_⟩) (by assumption) ?_
        rotate_left 1
        · (intro w hSw; (try dsimp only at hSw); obtain ⟨hSa, hSb⟩ := hSw; go_simp) <;> (with_reducible rfl)
        try simp only [Act.put, List.setIfInBounds_toArray, List.set_cons_zero, List.set_cons_succ]
        refine wpAnyH_take (i := 2) (oi := ⟨some 61, _, _, _, _, _⟩) (v := ?_) rfl (by kernel_rfl) (by kernel_rfl) (by kernel_rfl) (fun _ _ _ h => h) (Or.inl ⟨by rfl, ?_⟩) (by assumption) ?_
        rotate_left 1
        · (intro w hSw; (try dsimp only at hSw); obtain ⟨hSa, hSb⟩ := hSw; go_simp) <;> (with_reducible rfl)
        try simp only [Act.put, List.setIfInBounds_toArray, List.set_cons_zero, List.set_cons_succ]
        refine wpAnyH_take (i := 3) (oi := ⟨some 62, _, _, _, _, _⟩) (v := ?_) rfl (by kernel_rfl) (by kernel_rfl) (by kernel_rfl) (fun _ _ _ h => h) (Or.inl ⟨by rfl, ?_⟩) (by assumption) ?_
        rotate_left 1
        · (intro w hSw; (try dsimp only at hSw); obtain ⟨hSa, hSb⟩ := hSw; go_simp) <;> (with_reducible rfl)
        try simp only [Act.put, List.setIfInBounds_toArray, List.set_cons_zero, List.set_cons_succ]
        refine wpAnyH_take (i := 5) (oi := ⟨some 64, _, _, _, _, _⟩) (v := ?_) rfl (by kernel_rfl) (by kernel_rfl) (by kernel_rfl) (fun _ _ _ h => h) (Or.inl ⟨by rfl, ?_⟩) (by assumption) ?_
        rotate_left 1
        · (intro w hSw; (try dsimp only at hSw); obtain ⟨hSa, hSb⟩ := hSw; go_simp) <;> (with_reducible rfl)
        try simp only [Act.put, List.setIfInBounds_toArray, List.set_cons_zero, List.set_cons_succ]
        refine wpAnyH_take (i := 6) (oi := ⟨some 65, _, _, _, _, _⟩) (v := ?_) rfl (by kernel_rfl) (by kernel_rfl) (by kernel_rfl) (fun _ _ _ h => h) (Or.inl ⟨by rfl, ?_⟩) (by assumption) ?_
        rotate_left 1
        · (intro w hSw; (try dsimp only at hSw); obtain ⟨hSa, hSb⟩ := hSw; go_simp) <;> (with_reducible rfl)
        try simp only [Act.put, List.setIfInBounds_toArray, List.set_cons_zero, List.set_cons_succ]
        refine wpAnyH_take (i := 8) (oi := ⟨some 67, _, _, _, _, _⟩) (v := ?_) rfl (by kernel_rfl) (by kernel_rfl) (by kernel_rfl) (fun _ _ _ h => h) (Or.inl ⟨by rfl, ?_⟩) (by assumption) ?_
        rotate_left 1
        · (intro w hSw; (try dsimp only at hSw); obtain ⟨hSa, hSb⟩ := hSw; go_simp) <;> (with_reducible rfl)
        try simp only [Act.put, List.setIfInBounds_toArray, List.set_cons_zero, List.set_cons_succ]
        refine wpAnyH_take (i := 9) (oi := ⟨some 68, _, _, _, _, _⟩) (v := ?_) rfl (by kernel_rfl) (by kernel_rfl) (by kernel_rfl) (fun _ _ _ h => h) (Or.inl ⟨by rfl, ?_⟩) (by assumption) ?_
        rotate_left 1
        · (intro w hSw; (try dsimp only at hSw); obtain ⟨hSa, hSb⟩ := hSw; go_simp) <;> (with_reducible rfl)
        try simp only [Act.put, List.setIfInBounds_toArray, List.set_cons_zero, List.set_cons_succ]
        refine wpAnyH_take (i := 10) (oi := ⟨some 69, _, _, _, _, _⟩) (v := ?_) rfl (by kernel_rfl) (by kernel_rfl) (by kernel_rfl) (fun _ _ _ h => h) (Or.inl ⟨by rfl, ?_⟩) (by assumption) ?_
        rotate_left 1
        · (intro w hSw; (try dsimp only at hSw); obtain ⟨hSa, hSb⟩ := hSw; go_simp) <;> (with_reducible rfl)
        try simp only [Act.put, List.setIfInBounds_toArray, List.set_cons_zero, List.set_cons_succ]
        refine wpAnyH_take (i := 11) (oi := ⟨some 70, _, _, _, _, _⟩) (v := ?_) rfl (by kernel_rfl) (by kernel_rfl) (by kernel_rfl) (fun _ _ _ h => h) (Or.inl ⟨by rfl, ?_⟩) (by assumption) ?_
        rotate_left 1
        · (intro w hSw; (try dsimp only at hSw); obtain ⟨hSa, hSb⟩ := hSw; go_simp) <;> (with_reducible rfl)
        try simp only [Act.put, List.setIfInBounds_toArray, List.set_cons_zero, List.set_cons_succ]
        refine wpAnyH_take (i := 13) (oi := ⟨some 72, _, _, _, _, _⟩) (v := ?_) rfl (by kernel_rfl) (by kernel_rfl) (by kernel_rfl) (fun _ _ _ h => h) (Or.inl ⟨by rfl, ?_⟩) (by assumption) ?_
        rotate_left 1
        · (intro w hSw; (try dsimp only at hSw); obtain ⟨hSa, hSb⟩ := hSw; go_simp) <;> (with_reducible rfl)
        try simp only [Act.put, List.setIfInBounds_toArray, List.set_cons_zero, List.set_cons_succ]
        refine wpAnyH_ready (rs := [4, 7]) (by kernel_rfl) (by simp) ?_
        refine AllReadyH.cons (o := ⟨some 63, _, _, _, _, _⟩) rfl (fun K hK => ?_) (AllReadyH.cons (o := ⟨some 66, _, _, _, _, _⟩) rfl (fun K hK => ?_) AllReadyH.nil)
        · go_simp
          refine hK.out _ _ ?_ (fun hHeld => ?_)
          · exact sD
          clear hK K
          try simp only [Act.put, List.setIfInBounds_toArray, List.set_cons_zero, List.set_cons_succ]
          refine wpAnyH_ready (rs := [7]) (by kernel_rfl) (by simp) ?_
          refine AllReadyH.cons (o := ⟨some 66, _, _, _, _, _⟩) rfl (fun K hK => ?_) AllReadyH.nil
          go_simp
          refine hK.out _ _ ?_ (fun hHeld => ?_)
          · exact sL
          clear hK K
          try simp only [Act.put, List.setIfInBounds_toArray, List.set_cons_zero, List.set_cons_succ]
          refine wpAnyH_ready (rs := [12]) (by kernel_rfl) (by simp) ?_
          refine AllReadyH.cons (o := ⟨some 71, _, _, _, _, _⟩) rfl (fun K hK => ?_) AllReadyH.nil
          refine step_app rfl _ _ 22 rfl wB.heap.size 5 i0 (.int .u8 0) 1 Tryd.underlying22 hi hz0 hz1 hz2 rfl (.slice (some ⟨wB.heap.size, 0, none⟩) 0 0) 0 [] rfl HNEW.out fa fc nn (cb (dt.take nn)) rfl HTL.out HDL.out.rd (cb_one _) HDL.out.nil (by unfold maxLen; omega) (by omega) HSL.out ?_
          intro v4 w4 ho4 hg4 _ _
          rw [Nat.zero_add, List.nil_append] at ho4
          obtain ⟨A4, c4, rfl, hc4, hA4⟩ := own_form ho4
          have HF4 : Hid (Fr NoBlk wB w4) := HFL.out.grown hg4 (fun k hk hlt => by
            have hk' : some wB.heap.size = some k := hk
            injection hk' with hk'
            omega)
          have HO4 := Lib.hid ho4
          have s4 := SF w4 HF4.out
          have o4 := OF w4 HF4.out
          clear ho4 hg4 hc4 hA4
          refine hK.out _ _ ?_ (fun hHeld => ?_)
          · exact s4
          clear hK K
          try simp only [Act.put, List.setIfInBounds_toArray, List.set_cons_zero, List.set_cons_succ]
          refine wpAnyH_take (i := 14) (oi := ⟨some 73, _, _, _, _, _⟩) (v := ?_) rfl (by kernel_rfl) (by kernel_rfl) (by kernel_rfl) (fun _ _ _ h => h) (Or.inl ⟨by rfl, ?_⟩) (by assumption) ?_
          rotate_left 1
          · (intro w hSw; (try dsimp only at hSw); go_simp) <;> (with_reducible rfl)
          try simp only [Act.put, List.setIfInBounds_toArray, List.set_cons_zero, List.set_cons_succ]
          refine wpAnyH_ready (rs := [15]) (by kernel_rfl) (by simp) ?_
          refine AllReadyH.cons (o := ⟨some 74, _, _, _, _, _⟩) rfl (fun K hK => ?_) AllReadyH.nil
          go_simp
          have HF5 : Hid (Fr NoBlk wB (w4.alloc (.cells #[.string (bstr nm), .slice A4 nn c4, .int .i64 nn] 54))) := HF4.out.alloc _
          have s5 := SF _ HF5.out
          have o5 := OF _ HF5.out
          refine hK.out _ _ ?_ (fun hHeld => ?_)
          · exact s5
          clear hK K
          try simp only [Act.put, List.setIfInBounds_toArray, List.set_cons_zero, List.set_cons_succ]
          refine wpAnyH_ready (rs := [16]) (by kernel_rfl) (by simp) ?_
          refine AllReadyH.cons (o := ⟨some 75, _, _, _, _, _⟩) rfl (fun K hK => ?_) AllReadyH.nil
          have HR5 : Hid (Rd (w4.alloc (.cells #[.string (bstr nm), .slice A4 nn c4, .int .i64 nn] 54)) (some ⟨w4.heap.size, 0, none⟩) [.string (bstr nm), .slice A4 nn c4, .int .i64 nn]) := Rd.of_cells (Bk.new _ _ _)
          have HOO : Hid ((w4.alloc (.cells #[.string (bstr nm), .slice A4 nn c4, .int .i64 nn] 54)).ownsRow w.heap.size 54 3 (.slice mo.FA mo.fs.length mo.FC) mo.fs.length (rfcs mo.fs)) := (HRO.out.nofr (HFB.out.trans HF5.out)).row
          have HSZ : Hid (w.heap.size ≤ (w4.alloc (.cells #[.string (bstr nm), .slice A4 nn c4, .int .i64 nn] 54)).heap.size) := Nat.le_trans HFW.out.size (HFB.out.trans HF5.out).size
          refine step_appO rfl _ _ 50 rfl w.heap.size 54 l0 _ 3 48 Tryd.underlying50 hl hl0 hl1 hl2 rfl (by decide) (.slice mo.FA mo.fs.length mo.FC) mo.fs.length (rfcs mo.fs) rfl HOO.out ⟨w4.heap.size, 0, none⟩ 1 1 [.string (bstr nm), .slice A4 nn c4, .int .i64 nn] rfl rfl HR5.out ?q1 ?q2 ?q3 HSZ.out ?_
          case q1 => intro u hu; simp only [List.mem_cons, List.not_mem_nil, or_false] at hu; rcases hu with rfl | rfl | rfl <;> rfl
          case q2 => have := HMOL.out; unfold maxLen; omega
          case q3 => have := HMOL.out; omega
          intro v6 w6 ho6 hg6 _
          obtain ⟨A6, c6, rfl, hc6, hA6⟩ := own_form ho6
          have HO6 := Lib.hid ho6
          have HG6 := Lib.hid hg6
          have HBO : Hid (Bk w6 w.heap.size 52 mo.cells) := by
            have hb5 := (HRO.out.nofr (HFB.out.trans HF5.out)).bk
            rw [HGO.out] at hb5
            exact hb5.fr (Fr.ofGrown hg6) (fun e => own_apart HOO.out hb5 (by decide) e.symm)
          have o6 : w6.cell? ⟨w.heap.size, 1, none⟩ = some (.slice mo.FA mo.fs.length mo.FC) := HBO.out.cell 1
          have o6f := HBO.out.free 1
          have s6 := SG w6 (by
            refine (HF5.out.mono (D := fun k => (Value.slice mo.FA mo.fs.length mo.FC).ownBlock = some k) (fun _ _ h => h.elim)).trans ?_
            exact (Fr.ofGrown hg6).mono fun k _ hk => hk.symm)
          have s7 := SH w6 (.slice A6 (mo.fs.length + 1) c6) s6
          clear ho6 hg6 hc6 hA6
          refine hK.out _ _ ?_ (fun hHeld => ?_)
          · exact s6
          clear hK K
          try simp only [Act.put, List.setIfInBounds_toArray, List.set_cons_zero, List.set_cons_succ]
          refine wpAnyH_take (i := 17) (oi := ⟨some 76, _, _, _, _, _⟩) (v := ?_) rfl (by kernel_rfl) (by kernel_rfl) (by kernel_rfl) (fun _ _ _ h => h) (Or.inl ⟨by rfl, ?_⟩) (by assumption) ?_
          rotate_left 1
          · (intro w hSw; (try dsimp only at hSw); go_simp) <;> (with_reducible rfl)
          try simp only [Act.put, List.setIfInBounds_toArray, List.set_cons_zero, List.set_cons_succ]
          refine wpAnyH_take (i := 18) (oi := ⟨some 77, _, _, _, _, _⟩) (v := ?_) rfl (by kernel_rfl) (by kernel_rfl) (by kernel_rfl) (fun _ _ _ h => h) (Or.inl ⟨by rfl, ?_⟩) (by assumption) ?_
          rotate_left 1
          · (intro w hSw; (try dsimp only at hSw); go_simp) <;> (with_reducible rfl)
          try simp only [Act.put, List.setIfInBounds_toArray, List.set_cons_zero, List.set_cons_succ]
          refine wpAnyH_ready (rs := [19]) (by kernel_rfl) (by simp) ?_
          refine AllReadyH.cons (o := ⟨none, _, _, _, _, _⟩) rfl (fun K hK => ?_) AllReadyH.nil
          go_simp
          refine hK.out _ _ ?_ (fun hHeld => ?_)
          · exact s7
          clear hK K
          try simp only [Act.put, List.setIfInBounds_toArray, List.set_cons_zero, List.set_cons_succ]
          refine wpAnyH_done (by kernel_rfl) ?_ _
          have HDY : Hid (DOk w4 w.heap.size A4 c4 (dt.take nn)) := DOk.ofOwn (n := nn) (own_base HO4.out (Nat.le_trans HFW.out.size HFB.out.size)) HNL.out.symm
          have HPU : Hid (RIn (w6.setCell ⟨mo.g, 1, none⟩ (.slice A6 (mo.fs.length + 1) c6)) w.heap.size { mo with FA := A6, FC := c6, fs := mo.fs ++ [⟨⟨nm, dt.take nn, nn⟩, A4, c4⟩] } ∧ Fr mo.own wr (w6.setCell ⟨mo.g, 1, none⟩ (.slice A6 (mo.fs.length + 1) c6))) := HRO.out.push (HFB.out.trans HF5.out) ⟨⟨nm, dt.take nn, nn⟩, A4, c4⟩ (HDY.out.nofr ((Fr.refl _ _).alloc _)) (by show World.ownsRow _ _ _ _ _ _ (rfcs mo.fs ++ [_, .slice A4 (dt.take nn).length c4, _]); rw [HNL.out]; exact HO6.out) HG6.out
          rw [HGO.out] at HPU
          have HFZ : Hid (Fr NoBlk w (w6.setCell ⟨w.heap.size, 1, none⟩ (.slice A6 (mo.fs.length + 1) c6))) := HFW.out.step HPU.out.2 fun k hk hc => by
            have := (HRO.out.own hc).1
            omega
          have HRZ := Lib.hid HPU.out.1
          have HMAP : Hid ((mo.fs ++ [(⟨⟨nm, dt.take nn, nn⟩, A4, c4⟩ : RF)]).map RF.pf = pcrashL (m.pfs.take (k + 1)) ks) := by
            show _ = _
            rw [List.map_append, HMO.out, HCR.out]
            rfl
          clear HPU HDY HO4 HO6 HG6 HBO HF4 HF5 HR5 HOO HSZ
          go_wp2_with fail
          go_roundw
          case rel => exact ⟨k + 1, _, by omega, by go_num, HRZ, HFZ, HMAP, by show (mo.fs ++ [_]).length = _; have := HMOL.out; rw [List.length_append]; simp; omega, rfl, HST⟩
          case measure => simp [intOf]; omega
        · go_simp
          refine hK.out _ _ ?_ (fun hHeld => ?_)
          · exact sL
          clear hK K
          try simp only [Act.put, List.setIfInBounds_toArray, List.set_cons_zero, List.set_cons_succ]
          refine wpAnyH_ready (rs := [4, 12]) (by kernel_rfl) (by simp) ?_
          refine AllReadyH.cons (o := ⟨some 63, _, _, _, _, _⟩) rfl (fun K hK => ?_) (AllReadyH.cons (o := ⟨some 71, _, _, _, _, _⟩) rfl (fun K hK => ?_) AllReadyH.nil)
          · go_simp
            refine hK.out _ _ ?_ (fun hHeld => ?_)
            · exact sL
            clear hK K
            try simp only [Act.put, List.setIfInBounds_toArray, List.set_cons_zero, List.set_cons_succ]
            refine wpAnyH_ready (rs := [12]) (by kernel_rfl) (by simp) ?_
            refine AllReadyH.cons (o := ⟨some 71, _, _, _, _, _⟩) rfl (fun K hK => ?_) AllReadyH.nil
            refine step_app rfl _ _ 22 rfl wB.heap.size 5 i0 (.int .u8 0) 1 Tryd.underlying22 hi hz0 hz1 hz2 rfl (.slice (some ⟨wB.heap.size, 0, none⟩) 0 0) 0 [] rfl HNEW.out fa fc nn (cb (dt.take nn)) rfl HTL.out HDL.out.rd (cb_one _) HDL.out.nil (by unfold maxLen; omega) (by omega) HSL.out ?_
            intro v4 w4 ho4 hg4 _ _
            rw [Nat.zero_add, List.nil_append] at ho4
            obtain ⟨A4, c4, rfl, hc4, hA4⟩ := own_form ho4
            have HF4 : Hid (Fr NoBlk wB w4) := HFL.out.grown hg4 (fun k hk hlt => by
              have hk' : some wB.heap.size = some k := hk
              injection hk' with hk'
              omega)
            have HO4 := Lib.hid ho4
            have s4 := SF w4 HF4.out
            have o4 := OF w4 HF4.out
            clear ho4 hg4 hc4 hA4
            refine hK.out _ _ ?_ (fun hHeld => ?_)
            · exact s4
            clear hK K
            try simp only [Act.put, List.setIfInBounds_toArray, List.set_cons_zero, List.set_cons_succ]
            refine wpAnyH_take (i := 14) (oi := ⟨some 73, _, _, _, _, _⟩) (v := ?_) rfl (by kernel_rfl) (by kernel_rfl) (by kernel_rfl) (fun _ _ _ h => h) (Or.inl ⟨by rfl, ?_⟩) (by assumption) ?_
            rotate_left 1
            · (intro w hSw; (try dsimp only at hSw); go_simp) <;> (with_reducible rfl)
            try simp only [Act.put, List.setIfInBounds_toArray, List.set_cons_zero, List.set_cons_succ]
            refine wpAnyH_ready (rs := [15]) (by kernel_rfl) (by simp) ?_
            refine AllReadyH.cons (o := ⟨some 74, _, _, _, _, _⟩) rfl (fun K hK => ?_) AllReadyH.nil
            go_simp
            have HF5 : Hid (Fr NoBlk wB (w4.alloc (.cells #[.string (bstr nm), .slice A4 nn c4, .int .i64 nn] 54))) := HF4.out.alloc _
            have s5 := SF _ HF5.out
            have o5 := OF _ HF5.out
            refine hK.out _ _ ?_ (fun hHeld => ?_)
            · exact s5
            clear hK K
            try simp only [Act.put, List.setIfInBounds_toArray, List.set_cons_zero, List.set_cons_succ]
            refine wpAnyH_ready (rs := [16]) (by kernel_rfl) (by simp) ?_
            refine AllReadyH.cons (o := ⟨some 75, _, _, _, _, _⟩) rfl (fun K hK => ?_) AllReadyH.nil
            have HR5 : Hid (Rd (w4.alloc (.cells #[.string (bstr nm), .slice A4 nn c4, .int .i64 nn] 54)) (some ⟨w4.heap.size, 0, none⟩) [.string (bstr nm), .slice A4 nn c4, .int .i64 nn]) := Rd.of_cells (Bk.new _ _ _)
            have HOO : Hid ((w4.alloc (.cells #[.string (bstr nm), .slice A4 nn c4, .int .i64 nn] 54)).ownsRow w.heap.size 54 3 (.slice mo.FA mo.fs.length mo.FC) mo.fs.length (rfcs mo.fs)) := (HRO.out.nofr (HFB.out.trans HF5.out)).row
            have HSZ : Hid (w.heap.size ≤ (w4.alloc (.cells #[.string (bstr nm), .slice A4 nn c4, .int .i64 nn] 54)).heap.size) := Nat.le_trans HFW.out.size (HFB.out.trans HF5.out).size
            refine step_appO rfl _ _ 50 rfl w.heap.size 54 l0 _ 3 48 Tryd.underlying50 hl hl0 hl1 hl2 rfl (by decide) (.slice mo.FA mo.fs.length mo.FC) mo.fs.length (rfcs mo.fs) rfl HOO.out ⟨w4.heap.size, 0, none⟩ 1 1 [.string (bstr nm), .slice A4 nn c4, .int .i64 nn] rfl rfl HR5.out ?q1 ?q2 ?q3 HSZ.out ?_
            case q1 => intro u hu; simp only [List.mem_cons, List.not_mem_nil, or_false] at hu; rcases hu with rfl | rfl | rfl <;> rfl
            case q2 => have := HMOL.out; unfold maxLen; omega
            case q3 => have := HMOL.out; omega
            intro v6 w6 ho6 hg6 _
            obtain ⟨A6, c6, rfl, hc6, hA6⟩ := own_form ho6
            have HO6 := Lib.hid ho6
            have HG6 := Lib.hid hg6
            have HBO : Hid (Bk w6 w.heap.size 52 mo.cells) := by
              have hb5 := (HRO.out.nofr (HFB.out.trans HF5.out)).bk
              rw [HGO.out] at hb5
              exact hb5.fr (Fr.ofGrown hg6) (fun e => own_apart HOO.out hb5 (by decide) e.symm)
            have o6 : w6.cell? ⟨w.heap.size, 1, none⟩ = some (.slice mo.FA mo.fs.length mo.FC) := HBO.out.cell 1
            have o6f := HBO.out.free 1
            have s6 := SG w6 (by
              refine (HF5.out.mono (D := fun k => (Value.slice mo.FA mo.fs.length mo.FC).ownBlock = some k) (fun _ _ h => h.elim)).trans ?_
              exact (Fr.ofGrown hg6).mono fun k _ hk => hk.symm)
            have s7 := SH w6 (.slice A6 (mo.fs.length + 1) c6) s6
            clear ho6 hg6 hc6 hA6
            refine hK.out _ _ ?_ (fun hHeld => ?_)
            · exact s6
            clear hK K
            try simp only [Act.put, List.setIfInBounds_toArray, List.set_cons_zero, List.set_cons_succ]
            refine wpAnyH_take (i := 17) (oi := ⟨some 76, _, _, _, _, _⟩) (v := ?_) rfl (by kernel_rfl) (by kernel_rfl) (by kernel_rfl) (fun _ _ _ h => h) (Or.inl ⟨by rfl, ?_⟩) (by assumption) ?_
            rotate_left 1
            · (intro w hSw; (try dsimp only at hSw); go_simp) <;> (with_reducible rfl)
            try simp only [Act.put, List.setIfInBounds_toArray, List.set_cons_zero, List.set_cons_succ]
            refine wpAnyH_take (i := 18) (oi := ⟨some 77, _, _, _, _, _⟩) (v := ?_) rfl (by kernel_rfl) (by kernel_rfl) (by kernel_rfl) (fun _ _ _ h => h) (Or.inl ⟨by rfl, ?_⟩) (by assumption) ?_
            rotate_left 1
            · (intro w hSw; (try dsimp only at hSw); go_simp) <;> (with_reducible rfl)
            try simp only [Act.put, List.setIfInBounds_toArray, List.set_cons_zero, List.set_cons_succ]
            refine wpAnyH_ready (rs := [19]) (by kernel_rfl) (by simp) ?_
            refine AllReadyH.cons (o := ⟨none, _, _, _, _, _⟩) rfl (fun K hK => ?_) AllReadyH.nil
            go_simp
            refine hK.out _ _ ?_ (fun hHeld => ?_)
            · exact s7
            clear hK K
            try simp only [Act.put, List.setIfInBounds_toArray, List.set_cons_zero, List.set_cons_succ]
            refine wpAnyH_done (by kernel_rfl) ?_ _
            have HDY : Hid (DOk w4 w.heap.size A4 c4 (dt.take nn)) := DOk.ofOwn (n := nn) (own_base HO4.out (Nat.le_trans HFW.out.size HFB.out.size)) HNL.out.symm
            have HPU : Hid (RIn (w6.setCell ⟨mo.g, 1, none⟩ (.slice A6 (mo.fs.length + 1) c6)) w.heap.size { mo with FA := A6, FC := c6, fs := mo.fs ++ [⟨⟨nm, dt.take nn, nn⟩, A4, c4⟩] } ∧ Fr mo.own wr (w6.setCell ⟨mo.g, 1, none⟩ (.slice A6 (mo.fs.length + 1) c6))) := HRO.out.push (HFB.out.trans HF5.out) ⟨⟨nm, dt.take nn, nn⟩, A4, c4⟩ (HDY.out.nofr ((Fr.refl _ _).alloc _)) (by show World.ownsRow _ _ _ _ _ _ (rfcs mo.fs ++ [_, .slice A4 (dt.take nn).length c4, _]); rw [HNL.out]; exact HO6.out) HG6.out
            rw [HGO.out] at HPU
            have HFZ : Hid (Fr NoBlk w (w6.setCell ⟨w.heap.size, 1, none⟩ (.slice A6 (mo.fs.length + 1) c6))) := HFW.out.step HPU.out.2 fun k hk hc => by
              have := (HRO.out.own hc).1
              omega
            have HRZ := Lib.hid HPU.out.1
            have HMAP : Hid ((mo.fs ++ [(⟨⟨nm, dt.take nn, nn⟩, A4, c4⟩ : RF)]).map RF.pf = pcrashL (m.pfs.take (k + 1)) ks) := by
              show _ = _
              rw [List.map_append, HMO.out, HCR.out]
              rfl
            clear HPU HDY HO4 HO6 HG6 HBO HF4 HF5 HR5 HOO HSZ
            go_wp2_with fail
            go_roundw
            case rel => exact ⟨k + 1, _, by omega, by go_num, HRZ, HFZ, HMAP, by show (mo.fs ++ [_]).length = _; have := HMOL.out; rw [List.length_append]; simp; omega, rfl, HST⟩
            case measure => simp [intOf]; omega
          · refine step_app rfl _ _ 22 rfl wB.heap.size 5 i0 (.int .u8 0) 1 Tryd.underlying22 hi hz0 hz1 hz2 rfl (.slice (some ⟨wB.heap.size, 0, none⟩) 0 0) 0 [] rfl HNEW.out fa fc nn (cb (dt.take nn)) rfl HTL.out HDL.out.rd (cb_one _) HDL.out.nil (by unfold maxLen; omega) (by omega) HSL.out ?_
            intro v4 w4 ho4 hg4 _ _
            rw [Nat.zero_add, List.nil_append] at ho4
            obtain ⟨A4, c4, rfl, hc4, hA4⟩ := own_form ho4
            have HF4 : Hid (Fr NoBlk wB w4) := HFL.out.grown hg4 (fun k hk hlt => by
              have hk' : some wB.heap.size = some k := hk
              injection hk' with hk'
              omega)
            have HO4 := Lib.hid ho4
            have s4 := SF w4 HF4.out
            have o4 := OF w4 HF4.out
            clear ho4 hg4 hc4 hA4
            refine hK.out _ _ ?_ (fun hHeld => ?_)
            · exact s4
            clear hK K
            try simp only [Act.put, List.setIfInBounds_toArray, List.set_cons_zero, List.set_cons_succ]
            refine wpAnyH_take (i := 14) (oi := ⟨some 73, _, _, _, _, _⟩) (v := ?_) rfl (by kernel_rfl) (by kernel_rfl) (by kernel_rfl) (fun _ _ _ h => h) (Or.inl ⟨by rfl, ?_⟩) (by assumption) ?_
            rotate_left 1
            · (intro w hSw; (try dsimp only at hSw); go_simp) <;> (with_reducible rfl)
            try simp only [Act.put, List.setIfInBounds_toArray, List.set_cons_zero, List.set_cons_succ]
            refine wpAnyH_ready (rs := [4, 15]) (by kernel_rfl) (by simp) ?_
            refine AllReadyH.cons (o := ⟨some 63, _, _, _, _, _⟩) rfl (fun K hK => ?_) (AllReadyH.cons (o := ⟨some 74, _, _, _, _, _⟩) rfl (fun K hK => ?_) AllReadyH.nil)
            · go_simp
              refine hK.out _ _ ?_ (fun hHeld => ?_)
              · exact s4
              clear hK K
              try simp only [Act.put, List.setIfInBounds_toArray, List.set_cons_zero, List.set_cons_succ]
              refine wpAnyH_ready (rs := [15]) (by kernel_rfl) (by simp) ?_
              refine AllReadyH.cons (o := ⟨some 74, _, _, _, _, _⟩) rfl (fun K hK => ?_) AllReadyH.nil
              go_simp
              have HF5 : Hid (Fr NoBlk wB (w4.alloc (.cells #[.string (bstr nm), .slice A4 nn c4, .int .i64 nn] 54))) := HF4.out.alloc _
              have s5 := SF _ HF5.out
              have o5 := OF _ HF5.out
              refine hK.out _ _ ?_ (fun hHeld => ?_)
              · exact s5
              clear hK K
              try simp only [Act.put, List.setIfInBounds_toArray, List.set_cons_zero, List.set_cons_succ]
              refine wpAnyH_ready (rs := [16]) (by kernel_rfl) (by simp) ?_
              refine AllReadyH.cons (o := ⟨some 75, _, _, _, _, _⟩) rfl (fun K hK => ?_) AllReadyH.nil
              have HR5 : Hid (Rd (w4.alloc (.cells #[.string (bstr nm), .slice A4 nn c4, .int .i64 nn] 54)) (some ⟨w4.heap.size, 0, none⟩) [.string (bstr nm), .slice A4 nn c4, .int .i64 nn]) := Rd.of_cells (Bk.new _ _ _)
              have HOO : Hid ((w4.alloc (.cells #[.string (bstr nm), .slice A4 nn c4, .int .i64 nn] 54)).ownsRow w.heap.size 54 3 (.slice mo.FA mo.fs.length mo.FC) mo.fs.length (rfcs mo.fs)) := (HRO.out.nofr (HFB.out.trans HF5.out)).row
              have HSZ : Hid (w.heap.size ≤ (w4.alloc (.cells #[.string (bstr nm), .slice A4 nn c4, .int .i64 nn] 54)).heap.size) := Nat.le_trans HFW.out.size (HFB.out.trans HF5.out).size
              refine step_appO rfl _ _ 50 rfl w.heap.size 54 l0 _ 3 48 Tryd.underlying50 hl hl0 hl1 hl2 rfl (by decide) (.slice mo.FA mo.fs.length mo.FC) mo.fs.length (rfcs mo.fs) rfl HOO.out ⟨w4.heap.size, 0, none⟩ 1 1 [.string (bstr nm), .slice A4 nn c4, .int .i64 nn] rfl rfl HR5.out ?q1 ?q2 ?q3 HSZ.out ?_
              case q1 => intro u hu; simp only [List.mem_cons, List.not_mem_nil, or_false] at hu; rcases hu with rfl | rfl | rfl <;> rfl
              case q2 => have := HMOL.out; unfold maxLen; omega
              case q3 => have := HMOL.out; omega
              intro v6 w6 ho6 hg6 _
              obtain ⟨A6, c6, rfl, hc6, hA6⟩ := own_form ho6
              have HO6 := Lib.hid ho6
              have HG6 := Lib.hid hg6
              have HBO : Hid (Bk w6 w.heap.size 52 mo.cells) := by
                have hb5 := (HRO.out.nofr (HFB.out.trans HF5.out)).bk
                rw [HGO.out] at hb5
                exact hb5.fr (Fr.ofGrown hg6) (fun e => own_apart HOO.out hb5 (by decide) e.symm)
              have o6 : w6.cell? ⟨w.heap.size, 1, none⟩ = some (.slice mo.FA mo.fs.length mo.FC) := HBO.out.cell 1
              have o6f := HBO.out.free 1
              have s6 := SG w6 (by
                refine (HF5.out.mono (D := fun k => (Value.slice mo.FA mo.fs.length mo.FC).ownBlock = some k) (fun _ _ h => h.elim)).trans ?_
                exact (Fr.ofGrown hg6).mono fun k _ hk => hk.symm)
              have s7 := SH w6 (.slice A6 (mo.fs.length + 1) c6) s6
              clear ho6 hg6 hc6 hA6
              refine hK.out _ _ ?_ (fun hHeld => ?_)
              · exact s6
              clear hK K
              try simp only [Act.put, List.setIfInBounds_toArray, List.set_cons_zero, List.set_cons_succ]
              refine wpAnyH_take (i := 17) (oi := ⟨some 76, _, _, _, _, _⟩) (v := ?_) rfl (by kernel_rfl) (by kernel_rfl) (by kernel_rfl) (fun _ _ _ h => h) (Or.inl ⟨by rfl, ?_⟩) (by assumption) ?_
              rotate_left 1
              · (intro w hSw; (try dsimp only at hSw); go_simp) <;> (with_reducible rfl)
              try simp only [Act.put, List.setIfInBounds_toArray, List.set_cons_zero, List.set_cons_succ]
              refine wpAnyH_take (i := 18) (oi := ⟨some 77, _, _, _, _, _⟩) (v := ?_) rfl (by kernel_rfl) (by kernel_rfl) (by kernel_rfl) (fun _ _ _ h => h) (Or.inl ⟨by rfl, ?_⟩) (by assumption) ?_
              rotate_left 1
              · (intro w hSw; (try dsimp only at hSw); go_simp) <;> (with_reducible rfl)
              try simp only [Act.put, List.setIfInBounds_toArray, List.set_cons_zero, List.set_cons_succ]
              refine wpAnyH_ready (rs := [19]) (by kernel_rfl) (by simp) ?_
              refine AllReadyH.cons (o := ⟨none, _, _, _, _, _⟩) rfl (fun K hK => ?_) AllReadyH.nil
              go_simp
              refine hK.out _ _ ?_ (fun hHeld => ?_)
              · exact s7
              clear hK K
              try simp only [Act.put, List.setIfInBounds_toArray, List.set_cons_zero, List.set_cons_succ]
              refine wpAnyH_done (by kernel_rfl) ?_ _
              have HDY : Hid (DOk w4 w.heap.size A4 c4 (dt.take nn)) := DOk.ofOwn (n := nn) (own_base HO4.out (Nat.le_trans HFW.out.size HFB.out.size)) HNL.out.symm
              have HPU : Hid (RIn (w6.setCell ⟨mo.g, 1, none⟩ (.slice A6 (mo.fs.length + 1) c6)) w.heap.size { mo with FA := A6, FC := c6, fs := mo.fs ++ [⟨⟨nm, dt.take nn, nn⟩, A4, c4⟩] } ∧ Fr mo.own wr (w6.setCell ⟨mo.g, 1, none⟩ (.slice A6 (mo.fs.length + 1) c6))) := HRO.out.push (HFB.out.trans HF5.out) ⟨⟨nm, dt.take nn, nn⟩, A4, c4⟩ (HDY.out.nofr ((Fr.refl _ _).alloc _)) (by show World.ownsRow _ _ _ _ _ _ (rfcs mo.fs ++ [_, .slice A4 (dt.take nn).length c4, _]); rw [HNL.out]; exact HO6.out) HG6.out
              rw [HGO.out] at HPU
              have HFZ : Hid (Fr NoBlk w (w6.setCell ⟨w.heap.size, 1, none⟩ (.slice A6 (mo.fs.length + 1) c6))) := HFW.out.step HPU.out.2 fun k hk hc => by
                have := (HRO.out.own hc).1
                omega
              have HRZ := Lib.hid HPU.out.1
              have HMAP : Hid ((mo.fs ++ [(⟨⟨nm, dt.take nn, nn⟩, A4, c4⟩ : RF)]).map RF.pf = pcrashL (m.pfs.take (k + 1)) ks) := by
                show _ = _
                rw [List.map_append, HMO.out, HCR.out]
                rfl
              clear HPU HDY HO4 HO6 HG6 HBO HF4 HF5 HR5 HOO HSZ
              go_wp2_with fail
              go_roundw
              case rel => exact ⟨k + 1, _, by omega, by go_num, HRZ, HFZ, HMAP, by show (mo.fs ++ [_]).length = _; have := HMOL.out; rw [List.length_append]; simp; omega, rfl, HST⟩
              case measure => simp [intOf]; omega
            · go_simp
              have HF5 : Hid (Fr NoBlk wB (w4.alloc (.cells #[.string (bstr nm), .slice A4 nn c4, .int .i64 nn] 54))) := HF4.out.alloc _
              have s5 := SF _ HF5.out
              have o5 := OF _ HF5.out
              refine hK.out _ _ ?_ (fun hHeld => ?_)
              · exact s5
              clear hK K
              try simp only [Act.put, List.setIfInBounds_toArray, List.set_cons_zero, List.set_cons_succ]
              refine wpAnyH_ready (rs := [4]) (by kernel_rfl) (by simp) ?_
              refine AllReadyH.cons (o := ⟨some 63, _, _, _, _, _⟩) rfl (fun K hK => ?_) AllReadyH.nil
              go_simp
              refine hK.out _ _ ?_ (fun hHeld => ?_)
              · exact s5
              clear hK K
              try simp only [Act.put, List.setIfInBounds_toArray, List.set_cons_zero, List.set_cons_succ]
              refine wpAnyH_ready (rs := [16]) (by kernel_rfl) (by simp) ?_
              refine AllReadyH.cons (o := ⟨some 75, _, _, _, _, _⟩) rfl (fun K hK => ?_) AllReadyH.nil
              have HR5 : Hid (Rd (w4.alloc (.cells #[.string (bstr nm), .slice A4 nn c4, .int .i64 nn] 54)) (some ⟨w4.heap.size, 0, none⟩) [.string (bstr nm), .slice A4 nn c4, .int .i64 nn]) := Rd.of_cells (Bk.new _ _ _)
              have HOO : Hid ((w4.alloc (.cells #[.string (bstr nm), .slice A4 nn c4, .int .i64 nn] 54)).ownsRow w.heap.size 54 3 (.slice mo.FA mo.fs.length mo.FC) mo.fs.length (rfcs mo.fs)) := (HRO.out.nofr (HFB.out.trans HF5.out)).row
              have HSZ : Hid (w.heap.size ≤ (w4.alloc (.cells #[.string (bstr nm), .slice A4 nn c4, .int .i64 nn] 54)).heap.size) := Nat.le_trans HFW.out.size (HFB.out.trans HF5.out).size
              refine step_appO rfl _ _ 50 rfl w.heap.size 54 l0 _ 3 48 Tryd.underlying50 hl hl0 hl1 hl2 rfl (by decide) (.slice mo.FA mo.fs.length mo.FC) mo.fs.length (rfcs mo.fs) rfl HOO.out ⟨w4.heap.size, 0, none⟩ 1 1 [.string (bstr nm), .slice A4 nn c4, .int .i64 nn] rfl rfl HR5.out ?q1 ?q2 ?q3 HSZ.out ?_
              case q1 => intro u hu; simp only [List.mem_cons, List.not_mem_nil, or_false] at hu; rcases hu with rfl | rfl | rfl <;> rfl
              case q2 => have := HMOL.out; unfold maxLen; omega
              case q3 => have := HMOL.out; omega
              intro v6 w6 ho6 hg6 _
              obtain ⟨A6, c6, rfl, hc6, hA6⟩ := own_form ho6
              have HO6 := Lib.hid ho6
              have HG6 := Lib.hid hg6
              have HBO : Hid (Bk w6 w.heap.size 52 mo.cells) := by
                have hb5 := (HRO.out.nofr (HFB.out.trans HF5.out)).bk
                rw [HGO.out] at hb5
                exact hb5.fr (Fr.ofGrown hg6) (fun e => own_apart HOO.out hb5 (by decide) e.symm)
              have o6 : w6.cell? ⟨w.heap.size, 1, none⟩ = some (.slice mo.FA mo.fs.length mo.FC) := HBO.out.cell 1
              have o6f := HBO.out.free 1
              have s6 := SG w6 (by
                refine (HF5.out.mono (D := fun k => (Value.slice mo.FA mo.fs.length mo.FC).ownBlock = some k) (fun _ _ h => h.elim)).trans ?_
                exact (Fr.ofGrown hg6).mono fun k _ hk => hk.symm)
              have s7 := SH w6 (.slice A6 (mo.fs.length + 1) c6) s6
              clear ho6 hg6 hc6 hA6
              refine hK.out _ _ ?_ (fun hHeld => ?_)
              · exact s6
              clear hK K
              try simp only [Act.put, List.setIfInBounds_toArray, List.set_cons_zero, List.set_cons_succ]
              refine wpAnyH_take (i := 17) (oi := ⟨some 76, _, _, _, _, _⟩) (v := ?_) rfl (by kernel_rfl) (by kernel_rfl) (by kernel_rfl) (fun _ _ _ h => h) (Or.inl ⟨by rfl, ?_⟩) (by assumption) ?_
              rotate_left 1
              · (intro w hSw; (try dsimp only at hSw); go_simp) <;> (with_reducible rfl)
              try simp only [Act.put, List.setIfInBounds_toArray, List.set_cons_zero, List.set_cons_succ]
              refine wpAnyH_take (i := 18) (oi := ⟨some 77, _, _, _, _, _⟩) (v := ?_) rfl (by kernel_rfl) (by kernel_rfl) (by kernel_rfl) (fun _ _ _ h => h) (Or.inl ⟨by rfl, ?_⟩) (by assumption) ?_
              rotate_left 1
              · (intro w hSw; (try dsimp only at hSw); go_simp) <;> (with_reducible rfl)
              try simp only [Act.put, List.setIfInBounds_toArray, List.set_cons_zero, List.set_cons_succ]
              refine wpAnyH_ready (rs := [19]) (by kernel_rfl) (by simp) ?_
              refine AllReadyH.cons (o := ⟨none, _, _, _, _, _⟩) rfl (fun K hK => ?_) AllReadyH.nil
              go_simp
              refine hK.out _ _ ?_ (fun hHeld => ?_)
              · exact s7
              clear hK K
              try simp only [Act.put, List.setIfInBounds_toArray, List.set_cons_zero, List.set_cons_succ]
              refine wpAnyH_done (by kernel_rfl) ?_ _
              have HDY : Hid (DOk w4 w.heap.size A4 c4 (dt.take nn)) := DOk.ofOwn (n := nn) (own_base HO4.out (Nat.le_trans HFW.out.size HFB.out.size)) HNL.out.symm
              have HPU : Hid (RIn (w6.setCell ⟨mo.g, 1, none⟩ (.slice A6 (mo.fs.length + 1) c6)) w.heap.size { mo with FA := A6, FC := c6, fs := mo.fs ++ [⟨⟨nm, dt.take nn, nn⟩, A4, c4⟩] } ∧ Fr mo.own wr (w6.setCell ⟨mo.g, 1, none⟩ (.slice A6 (mo.fs.length + 1) c6))) := HRO.out.push (HFB.out.trans HF5.out) ⟨⟨nm, dt.take nn, nn⟩, A4, c4⟩ (HDY.out.nofr ((Fr.refl _ _).alloc _)) (by show World.ownsRow _ _ _ _ _ _ (rfcs mo.fs ++ [_, .slice A4 (dt.take nn).length c4, _]); rw [HNL.out]; exact HO6.out) HG6.out
              rw [HGO.out] at HPU
              have HFZ : Hid (Fr NoBlk w (w6.setCell ⟨w.heap.size, 1, none⟩ (.slice A6 (mo.fs.length + 1) c6))) := HFW.out.step HPU.out.2 fun k hk hc => by
                have := (HRO.out.own hc).1
                omega
              have HRZ := Lib.hid HPU.out.1
              have HMAP : Hid ((mo.fs ++ [(⟨⟨nm, dt.take nn, nn⟩, A4, c4⟩ : RF)]).map RF.pf = pcrashL (m.pfs.take (k + 1)) ks) := by
                show _ = _
                rw [List.map_append, HMO.out, HCR.out]
                rfl
              clear HPU HDY HO4 HO6 HG6 HBO HF4 HF5 HR5 HOO HSZ
              go_wp2_with fail
              go_roundw
              case rel => exact ⟨k + 1, _, by omega, by go_num, HRZ, HFZ, HMAP, by show (mo.fs ++ [_]).length = _; have := HMOL.out; rw [List.length_append]; simp; omega, rfl, HST⟩
              case measure => simp [intOf]; omega
    · obtain rfl : k = m.fs.length := by omega
      have HZ : Hid (RCrash w (pCrash m.pd ks) (.returned (.pointer (some ⟨w.heap.size, 0, none⟩))) wr) := by
        refine ⟨mo, by rw [HGO.out], ?_, HRO.out, HFW.out⟩
        obtain ⟨a1, a2, a3⟩ := HST.out
        have := HMO.out
        rw [show m.pfs.take m.fs.length = m.pfs from List.take_of_length_le (by rw [List.length_map]; exact Nat.le_refl _)] at this
        show (⟨mo.room, mo.left, mo.down, mo.fs.map RF.pf⟩ : PD) = _
        rw [this, a1, a2, a3]
        rfl
      go_wp2_with fail
      go_ret
      exact HZ.out
end Go.Proofs.YtokonhcphhpogaaDoor

namespace Go.Proofs.YtokonhcphhpogaaDoor
open Go.RowKit


theorem AtS.leftB {w wr : World} {gd : Nat} {p : PD} {S : Nat → Prop} (h : AtS w wr gd p S) : -9223372036854775808 ≤ p.left ∧ p.left ≤ 9223372036854775807 := by
  obtain ⟨B, m, rfl, hdk, hw, hB, hs⟩ := h
  exact hdk.lf
/-- the document's disk: below 0 its changes are -1. -/
def norm (p : PD) : PD := { p with left := if p.left < 0 then -1 else p.left }
theorem norm_spend (p : PD) : pspend (norm p) = norm (pspend p) := by
  unfold pspend norm
  dsimp only
  by_cases h : p.left < 0
  · rw [if_pos h, if_neg (by omega), if_neg (by omega), if_neg (by omega), if_neg (by omega)]
    simp [h]
  · rw [if_neg h]
    by_cases h0 : p.left = 0
    · simp [h0]
    · rw [if_neg h0, if_pos (by omega)]
      dsimp only
      rw [if_neg (by omega)]
theorem norm_zero (p : PD) : (norm p).left = 0 ↔ p.left = 0 := by
  unfold norm
  dsimp only
  split <;> omega
theorem norm_files (p : PD) (L : List PF) : { norm p with files := L } = norm { p with files := L } := rfl
theorem norm_change (p : PD) (k : Bs) (rt : PF → Bool) (act : PF → List PF → List PF) : pChange (norm p) k rt act = (norm (pChange p k rt act).1, (pChange p k rt act).2) := by
  unfold pChange
  show (if p.down = true then _ else match pfind p.files k with | none => _ | some f => if rt f = false then _ else if (norm p).left = 0 then _ else _) = _
  split
  · rfl
  · cases pfind p.files k with
    | none => rfl
    | some f =>
      dsimp only
      split
      · rfl
      · by_cases h : p.left = 0
        · rw [if_pos ((norm_zero p).2 h), if_pos h, norm_spend]
        · rw [if_neg (fun e => h ((norm_zero p).1 e)), if_neg h, norm_spend]
          rfl
theorem norm_append (p : PD) (k d : Bs) : pAppend (norm p) k d = (norm (pAppend p k d).1, (pAppend p k d).2) := by
  unfold pAppend
  show (if p.down = true then _ else if isNm k = false then _ else if (pfind p.files k = none ∧ 32 ≤ p.files.length) ∨ p.room < ptotal p.files + d.length then _ else _) = _
  split
  · rfl
  split
  · rfl
  split
  · rfl
  · show (pspend (norm { p with files := pput p.files k d }), pspendE (norm p)) = _
    rw [norm_spend]
    congr 1
    unfold pspendE
    by_cases h : p.left = 0
    · rw [if_pos ((norm_zero p).2 h), if_pos h]
    · rw [if_neg (fun e => h ((norm_zero p).1 e)), if_neg h]

/-- the two, and blocks E that neither turns. -/
structure Pair (v wr : World) (gd : Nat) (p : PD) (m : RM) (E : Nat → Prop) : Prop where
  ats : AtS v wr gd p fun k => m.blk k ∨ E k
  rin : RIn wr v.heap.size m
  far : ∀ k, E k → v.heap.size ≤ k ∧ k < wr.heap.size ∧ ¬ m.blk k
section
variable {v wr w' : World} {gd : Nat} {p p' : PD} {m m' : RM} {E : Nat → Prop}
theorem Pair.fr (h : Pair v wr gd p m E) : Fr NoBlk v wr := h.ats.fr
theorem Pair.lt (h : Pair v wr gd p m E) : ∀ k, m.blk k ∨ E k → k < wr.heap.size := fun k hk => hk.elim (fun h2 => (h.rin.blk h2).2) fun h2 => (h.far k h2).2.1
theorem Pair.nofr (h : Pair v wr gd p m E) (hf : Fr NoBlk wr w') : Pair v w' gd p m E :=
  ⟨h.ats.nofr hf, h.rin.nofr hf, fun k hk => ⟨(h.far k hk).1, by have := (h.far k hk).2.1; have := hf.size; omega, (h.far k hk).2.2⟩⟩
/-- more blocks of the law's own. -/
theorem Pair.more (h : Pair v wr gd p m E) (hf : Fr NoBlk wr w') {E' : Nat → Prop} (hE : ∀ k, E' k → E k ∨ (wr.heap.size ≤ k ∧ k < w'.heap.size)) : Pair v w' gd p m E' := by
  refine ⟨h.ats.prot hf (fun _ _ h => h.elim) fun k hk => ?_, h.rin.nofr hf, fun k hk => ?_⟩
  · rcases hk with hk | hk
    · exact .inl (.inl hk)
    · exact (hE k hk).imp .inr And.left
  · rcases hE k hk with h1 | ⟨h1, h2⟩
    · exact ⟨(h.far k h1).1, by have := (h.far k h1).2.1; have := hf.size; omega, (h.far k h1).2.2⟩
    · refine ⟨by have := h.fr.size; omega, h2, fun hb => ?_⟩
      have := (h.rin.blk hb).2
      omega
/-- what the law writes in its own blocks. -/
theorem Pair.own (h : Pair v wr gd p m E) {C : Nat → Prop} (hf : Fr C wr w') (hC : ∀ k, k < wr.heap.size → C k → E k) : Pair v w' gd p m E := by
  have hf' : Fr E wr w' := hf.mono fun k hk hc => hC k hk hc
  refine ⟨h.ats.prot hf' (fun k _ hc => ⟨.inr hc, (h.far k hc).1⟩) fun k hk => .inl hk, h.rin.fr hf' fun k hk hc => (h.far k hc).2.2 hk, fun k hk => ⟨(h.far k hk).1, by have := (h.far k hk).2.1; have := hf.size; omega, (h.far k hk).2.2⟩⟩
theorem Pair.disk (h : Pair v wr gd p m E) (ha : AtS v w' gd p' fun k => m.blk k ∨ E k) (hf : Fr (Loose v fun k => m.blk k ∨ E k) wr w') : Pair v w' gd p' m E ∧ Fr (fun k => ¬ E k) wr w' :=
  ⟨⟨ha, h.rin.fr hf fun k hk hc => hc.1 (.inl hk), fun k hk => ⟨(h.far k hk).1, by have := (h.far k hk).2.1; have := hf.size; omega, (h.far k hk).2.2⟩⟩, hf.mono fun k _ hc he => hc.1 (.inr he)⟩
theorem Pair.ref (h : Pair v wr gd p m E) (hp : RPost wr w' v.heap.size m m') : Pair v w' gd p m' E ∧ Fr (fun k => ¬ E k) wr w' := by
  refine ⟨⟨h.ats.prot hp.fr (fun k hk hc => ⟨.inl (.inl hc), (h.rin.own hc).1⟩) fun k hk => ?_, hp.rin, fun k hk => ⟨(h.far k hk).1, by have := (h.far k hk).2.1; have := hp.fr.size; omega, fun hb => ?_⟩⟩, hp.fr.mono fun k _ hc he => (h.far k he).2.2 (.inl hc)⟩
  · rcases hk with hk | hk
    · exact (hp.blk k hk).imp .inl id
    · exact .inl (.inr hk)
  · rcases hp.blk k hb with h1 | h1
    · exact (h.far k hk).2.2 h1
    · have := (h.far k hk).2.1
      omega
/-- as much as the document's calls ask. -/
theorem Pair.fit (h : Pair v wr gd p m E) {q : PD} (hq : m.pd = norm q) (hr : q.room = p.room) (hfl : q.files = p.files) (hl : -9223372036854775808 ≤ q.left ∧ q.left ≤ 9223372036854775807) : RFit m := by
  obtain ⟨f1, f2, f3, f4, f5⟩ := h.ats.fits
  have e1 : m.pfs = p.files := by rw [← hfl]; exact congrArg PD.files hq
  have e2 : m.room = p.room := by rw [← hr]; exact congrArg PD.room hq
  have e3 : m.left = if q.left < 0 then -1 else q.left := congrArg PD.left hq
  refine ⟨?_, by rw [e1, e2]; exact f1, by rw [e2]; exact f2, by rw [e1]; exact f4, ?_, by rw [e1]; exact f5⟩
  · have : m.pfs.length = m.fs.length := List.length_map ..
    rw [← this, e1]; exact f3
  · rw [e3]
    split <;> omega
end
/-- a call that is made on both, in any order: what each answers. -/
structure Both (v wr : World) (gd : Nat) (p : PD) (m : RM) (E : Nat → Prop) (fD : FuncId) (xD : Array Value) (rD : PD × Int) (fR : FuncId) (xR : Array Value) : Prop where
  dd : ∀ (W : World) (m' : RM), Pair v W gd p m' E → Fr (fun k => ¬ E k) wr W → Calls Tryd.prog fD xD W fun e w' => e = .returned (.int .i64 rD.2) ∧ Pair v w' gd rD.1 m' E ∧ Fr (fun k => ¬ E k) W w'
  rr : ∀ (W : World) (p' : PD), Pair v W gd p' m E → Fr (fun k => ¬ E k) wr W → Calls Tryd.prog fR xR W fun e w' => e = .returned (.int .i64 rD.2) ∧ ∃ m', m'.pd = norm rD.1 ∧ m'.g = m.g ∧ Pair v w' gd p' m' E ∧ Fr (fun k => ¬ E k) W w'
section
variable {v wr : World} {gd : Nat} {p : PD} {m : RM} {E : Nat → Prop}
theorem Pair.both {fD fR : FuncId} {xD xR : Array Value} {rD : PD × Int} {r2 : PD × Int} (hr : r2 = (norm rD.1, rD.2))
    (hd : ∀ (W : World) (m' : RM), Pair v W gd p m' E → Fr (fun k => ¬ E k) wr W → Calls Tryd.prog fD xD W fun e w' => e = .returned (.int .i64 rD.2) ∧ AtS v w' gd rD.1 (fun k => m'.blk k ∨ E k) ∧ Fr (Loose v fun k => m'.blk k ∨ E k) W w')
    (hR : ∀ (W : World) (p' : PD), Pair v W gd p' m E → Fr (fun k => ¬ E k) wr W → Calls Tryd.prog fR xR W (REnd W v.heap.size m r2)) : Both v wr gd p m E fD xD rD fR xR := by
  subst hr
  refine ⟨fun W m' hp hf => (hd W m' hp hf).mono fun e w' ⟨he, ha, hl⟩ => ⟨he, hp.disk ha hl⟩, fun W p' hp hf => (hR W p' hp hf).mono fun e w' ⟨he, m', h1, h2⟩ => ⟨he, m', h1, h2.g, hp.ref h2⟩⟩
theorem both_sync (hm : m.pd = norm p) (ht : RFit m) (k : Bs) (hk : k.length ≤ maxLen) : Both v wr gd p m E 40 #[.pointer (some ⟨gd, 0, none⟩), .string (bstr k)] (pSync p k) 44 #[.pointer (some ⟨m.g, 0, none⟩), .string (bstr k)] :=
  Pair.both (r2 := pSync m.pd k) (by rw [hm]; exact norm_change _ _ _ _) (fun _ _ hp _ => syncS hp.ats hp.lt k hk) fun W _ hp _ => rsync_any W _ m hp.rin ht k
theorem both_remove (hm : m.pd = norm p) (ht : RFit m) (k : Bs) (hk : k.length ≤ maxLen) : Both v wr gd p m E 38 #[.pointer (some ⟨gd, 0, none⟩), .string (bstr k)] (pRemove p k) 42 #[.pointer (some ⟨m.g, 0, none⟩), .string (bstr k)] :=
  Pair.both (r2 := pRemove m.pd k) (by rw [hm]; exact norm_change _ _ _ _) (fun _ _ hp _ => removeS hp.ats hp.lt k hk) fun W _ hp _ => rremove_any W _ m hp.rin ht hp.fr.size k
theorem both_rename (hm : m.pd = norm p) (ht : RFit m) (k : Bs) (hk : k.length ≤ maxLen) (tt : Bs) (htt : tt.length ≤ maxLen) : Both v wr gd p m E 41 #[.pointer (some ⟨gd, 0, none⟩), .string (bstr k), .string (bstr tt)] (pRename p k tt) 45 #[.pointer (some ⟨m.g, 0, none⟩), .string (bstr k), .string (bstr tt)] :=
  Pair.both (r2 := pRename m.pd k tt) (by rw [hm]; exact norm_change _ _ _ _) (fun _ _ hp _ => renameS hp.ats hp.lt k hk tt htt) fun W _ hp _ => rrename_any W _ m hp.rin ht hp.fr.size k tt htt


end
end Go.Proofs.YtokonhcphhpogaaDoor

namespace Go.Proofs.YtokonhcphhpogaaDoor
open Go.RowKit

theorem none_named {L : List PF} {k : Bs} (h : pfind L k = none) : ∀ g ∈ L, ¬ g.name = k := by
  intro g hg e
  obtain ⟨f, hf⟩ := find_named (List.mem_map.2 ⟨g, hg, e⟩)
  rw [h] at hf
  cases hf
theorem set_none {L : List PF} {k : Bs} (h : ∀ g ∈ L, ¬ g.name = k) (a : PF → PF) : pset L k a = L := by
  unfold pset
  conv => rhs; rw [← List.map_id L]
  apply List.map_congr_left
  intro g hg
  rw [if_neg (h g hg)]
  rfl
theorem grow_set (L : List PF) (hn : (L.map (·.name)).Nodup) (k d : Bs) (f : PF) (hf : pfind L k = some f) : ptotal (pset L k fun g => { g with data := g.data ++ d }) = ptotal L + d.length := by
  induction L with
  | nil => cases hf
  | cons g t ih =>
    rw [List.map_cons, List.nodup_cons] at hn
    by_cases e : g.name = k
    · have h2 : pset t k (fun g => { g with data := g.data ++ d }) = t := set_none (fun x hx ex => hn.1 (List.mem_map.2 ⟨x, hx, ex.trans e.symm⟩)) _
      show ptotal ((if g.name = k then _ else g) :: pset t k _) = _
      rw [if_pos e, h2]
      show (g.data ++ d).length + ptotal t = g.data.length + ptotal t + d.length
      rw [List.length_append]; omega
    · have hf2 : pfind t k = some f := by
        unfold pfind at hf
        rwa [if_neg e] at hf
      show ptotal ((if g.name = k then _ else g) :: pset t k _) = _
      rw [if_neg e]
      show g.data.length + ptotal (pset t k _) = g.data.length + ptotal t + d.length
      rw [ih hn.2 hf2]; omega
theorem grow_new (L : List PF) (k d : Bs) (h : ∀ g ∈ L, ¬ g.name = k) : ptotal (pset (pins ⟨k, [], 0⟩ L) k fun g => { g with data := g.data ++ d }) = ptotal L + d.length := by
  induction L with
  | nil =>
    show ptotal [if k = k then _ else _] = _
    rw [if_pos rfl]
    show ([] ++ d).length + 0 = 0 + d.length
    simp
  | cons y r ih =>
    unfold pins
    split
    · show ptotal ((if k = k then _ else _) :: pset (y :: r) k _) = _
      rw [if_pos rfl, set_none h]
      show ([] ++ d).length + ptotal (y :: r) = _
      simp; omega
    · show ptotal ((if y.name = k then _ else y) :: pset (pins _ r) k _) = _
      rw [if_neg (h y (List.mem_cons_self ..))]
      show y.data.length + ptotal (pset _ k _) = y.data.length + ptotal r + d.length
      rw [ih fun g hg => h g (List.mem_cons_of_mem _ hg)]; omega
theorem grow_put (L : List PF) (hn : (L.map (·.name)).Nodup) (k d : Bs) : ptotal (pput L k d) = ptotal L + d.length := by
  unfold pput
  cases hf : pfind L k with
  | none => exact grow_new L k d (none_named hf)
  | some f => exact grow_set L hn k d f hf

theorem pset_nm (L : List PF) (k : Bs) (h : PF → PF) (hh : ∀ g, (h g).name = g.name) : (pset L k h).map (·.name) = L.map (·.name) := by
  unfold pset
  rw [List.map_map]
  apply List.map_congr_left
  intro g _
  show (if g.name = k then h g else g).name = g.name
  split
  · exact hh g
  · rfl
theorem pset_mem {L : List PF} {k : Bs} {h : PF → PF} {g : PF} (hg : g ∈ pset L k h) : g ∈ L ∨ ∃ f ∈ L, g = h f := by
  obtain ⟨f, hf, rfl⟩ := List.mem_map.1 hg
  split
  · exact .inr ⟨f, hf, rfl⟩
  · exact .inl hf
theorem pset_tot (L : List PF) (k : Bs) (h : PF → PF) (hh : ∀ g, (h g).data = g.data) : ptotal (pset L k h) = ptotal L := by
  induction L with
  | nil => rfl
  | cons g t ih =>
    show (if g.name = k then h g else g).data.length + ptotal (pset t k h) = g.data.length + ptotal t
    rw [ih]
    split
    · rw [hh]
    · rfl
theorem ptotal_sub {L M : List PF} (h : L.Sublist M) : ptotal L ≤ ptotal M := by
  induction h with
  | slnil => exact Nat.le_refl _
  | cons a _ ih => show _ ≤ a.data.length + _; omega
  | cons_cons a _ ih => show a.data.length + _ ≤ a.data.length + _; omega
structure PFit (p : PD) : Prop where
  len : p.files.length ≤ 32
  tot : ptotal p.files ≤ p.room
  room : p.room ≤ 1048576
  nodup : (p.files.map (·.name)).Nodup
  left : -9223372036854775808 ≤ p.left ∧ p.left ≤ 9223372036854775807
  last : ∀ f ∈ p.files, f.last ≤ f.data.length
theorem PFit.rfit {m : RM} (h : PFit m.pd) : RFit m :=
  ⟨by have h1 : m.pfs.length ≤ 32 := h.len; rwa [List.length_map] at h1, h.tot, h.room, h.nodup, h.left, h.last⟩
theorem RFit.pfit {m : RM} (h : RFit m) : PFit m.pd :=
  ⟨by show m.pfs.length ≤ 32; rw [List.length_map]; exact h.len, h.tot, h.room, h.nodup, h.left, h.last⟩
theorem PFit.spend {p : PD} (h : PFit p) : PFit (pspend p) := by
  have hl := h.left
  unfold pspend
  split
  · exact ⟨h.len, h.tot, h.room, h.nodup, h.left, h.last⟩
  · split
    · exact ⟨h.len, h.tot, h.room, h.nodup, by show _ ≤ p.left - 1 ∧ p.left - 1 ≤ _; omega, h.last⟩
    · exact h
theorem PFit.change {p : PD} (h : PFit p) (k : Bs) (rt : PF → Bool) (act : PF → List PF → List PF) (ha : ∀ q : PD, PFit q → ∀ f, PFit { q with files := act f q.files }) : PFit (pChange p k rt act).1 := by
  unfold pChange
  split
  · exact h
  · split
    · exact h
    · rename_i f hf
      split
      · exact h
      · split
        · exact h.spend
        · have := ha (pspend p) h.spend f
          have e : (pspend p).files = p.files := by
            unfold pspend
            split
            · rfl
            · split <;> rfl
          rw [e] at this
          exact this
theorem PFit.remove {p : PD} (h : PFit p) (k : Bs) : PFit (pRemove p k).1 := h.change _ _ _ fun q hq _ => by
  have hs : (pdel q.files k).Sublist q.files := List.filter_sublist
  exact ⟨Nat.le_trans hs.length_le hq.len, Nat.le_trans (ptotal_sub hs) hq.tot, hq.room, (hs.map _).nodup hq.nodup, hq.left, fun f hf => hq.last f (hs.mem hf)⟩
theorem PFit.sync {p : PD} (h : PFit p) (k : Bs) : PFit (pSync p k).1 := h.change _ _ _ fun q hq _ => by
  refine ⟨?_, ?_, hq.room, ?_, hq.left, fun f hf => ?_⟩
  · show (pset q.files k _).length ≤ 32
    unfold pset
    rw [List.length_map]
    exact hq.len
  · show ptotal (pset q.files k _) ≤ q.room
    rw [pset_tot _ _ (fun g => { g with last := g.data.length }) fun _ => rfl]
    exact hq.tot
  · show ((pset q.files k _).map (·.name)).Nodup
    rw [pset_nm _ _ (fun g => { g with last := g.data.length }) fun _ => rfl]
    exact hq.nodup
  · rcases pset_mem hf with hf | ⟨g, hg, rfl⟩
    · exact hq.last f hf
    · exact Nat.le_refl _
theorem PFit.append {p : PD} (h : PFit p) (k d : Bs) : PFit (pAppend p k d).1 := by
  unfold pAppend
  split
  · exact h
  split
  · exact h
  split
  · exact h
  rename_i hc
  refine PFit.spend ?_
  have hd : ∀ (L : List PF), (L.map (·.name)).Nodup → (∀ f ∈ L, f.last ≤ f.data.length) → L.length ≤ 32 → ((pset L k fun g => { g with data := g.data ++ d }).map (·.name)).Nodup ∧ (∀ f ∈ pset L k fun g => { g with data := g.data ++ d }, f.last ≤ f.data.length) ∧ (pset L k fun g => { g with data := g.data ++ d }).length ≤ 32 := fun L hn hl hk => by
    refine ⟨by rw [pset_nm _ _ (fun g => { g with data := g.data ++ d }) fun _ => rfl]; exact hn, fun f hf => ?_, by unfold pset; rw [List.length_map]; exact hk⟩
    rcases pset_mem hf with hf | ⟨g, hg, rfl⟩
    · exact hl f hf
    · have := hl g hg
      show g.last ≤ (g.data ++ d).length
      rw [List.length_append]; omega
  have ht : ptotal (pput p.files k d) ≤ p.room := by
    rw [grow_put _ h.nodup]
    have : ¬ p.room < ptotal p.files + d.length := fun e => hc (.inr e)
    omega
  have hp : ((pput p.files k d).map (·.name)).Nodup ∧ (∀ f ∈ pput p.files k d, f.last ≤ f.data.length) ∧ (pput p.files k d).length ≤ 32 := by
    unfold pput
    cases hf : pfind p.files k with
    | some f => exact hd _ h.nodup h.last h.len
    | none =>
      have h32 : ¬ 32 ≤ p.files.length := fun e => hc (.inl ⟨hf, e⟩)
      refine hd _ (pins_nodup h.nodup hf) (fun f hm => ?_) ?_
      · rcases List.mem_cons.1 ((pins_perm _ _).mem_iff.1 hm) with rfl | hm
        · exact Nat.zero_le _
        · exact h.last f hm
      · rw [(pins_perm _ _).length_eq, List.length_cons]; omega
  exact ⟨hp.2.2, ht, h.room, hp.1, h.left, hp.2.1⟩
end Go.Proofs.YtokonhcphhpogaaDoor

namespace Go.Proofs.YtokonhcphhpogaaDoor
open Go.RowKit Go.Maps

set_option maxRecDepth 100000 in
theorem rload_any (w : World) (base : Nat) (m : RM) (h : RIn w base m) (ht : RFit m) (k : Bs) :
    Calls Tryd.prog 23 #[.pointer (some ⟨m.g, 0, none⟩), .string (bstr k)] w fun e w' => LoadPost w w' e (pload m.pd k) := by
  have hl := pread_len m.pd k
  have hft : ptotal m.pd.files ≤ 1048576 := Nat.le_trans ht.tot ht.room
  have HR := Lib.hid (rread_any w base m h ht k)
  have HPL : Hid (pload m.pd k = if (pRead m.pd k).2 ≠ 0 then ([], (pRead m.pd k).2) else ((unpk (pRead m.pd k).1).1, ((unpk (pRead m.pd k).1).2 : Int))) := rfl
  generalize pload m.pd k = q at *
  generalize pRead m.pd k = r at *
  generalize bstr k = ks at *
  obtain ⟨d, er⟩ := r
  dsimp only at hl HPL
  have hd : d.length ≤ 10000000 := by omega
  clear hl hft h ht
  go_enter Tryd.func23, Tryd.ntmps23
  go_wp2_with fail
  refine HR.out.mono ?_
  clear HR
  rintro e w1 ⟨A1, c1, rfl, hrd, hfr, hle, hnil⟩
  have HF := Lib.hid hfr
  dsimp only at hrd hle ⊢
  by_cases h0 : er = 0
  · subst h0
    have HU := Lib.hid (runpack_any w1 A1 c1 d ⟨hrd, hnil⟩ hle hd)
    clear hrd hfr hle hnil
    generalize d.length = dl at *
    go_wp2_with fail
    refine HU.out.mono ?_
    clear HU
    rintro e w2 ⟨v2, rfl, hn2⟩
    have HZ : Hid (LoadPost w w2 (.returned (.tuple #[v2, .int .i64 (unpk d).2])) q) := by
      rw [HPL.out, if_neg (by simp)]
      exact ⟨v2, rfl, own_base hn2.own HF.out.size, HF.out.trans hn2.fr⟩
    clear hn2
    go_wp2_with fail
    go_ret2
    exact HZ.out
  · have t1 : (er != 0) = true := by rw [bne_iff_ne]; exact h0
    have HZ : Hid (LoadPost w (w1.alloc (.cells #[] 5)) (.returned (.tuple #[.slice (some ⟨w1.heap.size, 0, none⟩) 0 0, .int .i64 er])) q) := by
      rw [HPL.out, if_pos h0]
      exact ⟨_, rfl, own_base (World.ownsRow_made w1 #[] 0 (Nat.le_refl _) (by decide) rfl) HF.out.size, HF.out.alloc _⟩
    clear hrd hfr hle hnil
    generalize d.length = dl at *
    go_wp2_with fail
    go_ret2
    exact HZ.out

set_option maxRecDepth 100000 in
set_option maxHeartbeats 4000000 in
theorem rsave_any (w : World) (base : Nat) (m : RM) (h : RIn w base m) (ht : RFit m) (hb0 : base ≤ w.heap.size) (n : Bs) (hn : n.length ≤ maxLen) (A : Option Addr) (c : Nat) (b : Bs) (hb : Part w (A, c, b)) (hc : b.length ≤ c) (hbl : b.length ≤ 100000) (hsafe : 0 < b.length → ∀ k, ablk A k → ¬ m.own k) :
    Calls Tryd.prog 21 #[.pointer (some ⟨m.g, 0, none⟩), .string (bstr n), .slice A b.length c] w (REnd w base m (psave m.pd n b)) := by
  have HHB := Lib.hid hb
  have HC := Lib.hid hc
  have HSF := Lib.hid hsafe
  have z0 := bstr_size n
  have HND : Hid (bstr n ++ { data := #[126] } = bstr (draft n)) := bstr_append n [126]
  have HDN : Hid ((draft n).length = n.length + 1) := by show _ = _; simp [draft]
  have HFT := Lib.hid ht.pfit
  unfold maxLen at hn
  by_cases hl0 : n.length < 1
  · have HZ : Hid (REnd w base m (psave m.pd n b) (.returned (.int .i64 1)) w) := REnd.same h (by unfold psave; rw [if_pos (.inl hl0)])
    have z1 : (bstr n).size < 1 := by omega
    have z2 : (bstr n).size ≤ 9223372036854775807 := by omega
    generalize bstr n = nm at *
    generalize psave m.pd n b = rr at *
    clear h ht hb hc z0
    generalize b.length = bl at *
    go_enter Tryd.func21, Tryd.ntmps21
    go_wp2_with fail
    go_ret
    exact HZ.out
  by_cases hl1 : 15 < n.length
  · have HZ : Hid (REnd w base m (psave m.pd n b) (.returned (.int .i64 1)) w) := REnd.same h (by unfold psave; rw [if_pos (.inr hl1)])
    have z1 : ¬ (bstr n).size < 1 := by omega
    have z3 : 15 < (bstr n).size := by omega
    have z2 : (bstr n).size ≤ 9223372036854775807 := by omega
    generalize bstr n = nm at *
    generalize psave m.pd n b = rr at *
    clear h ht hb hc z0
    generalize b.length = bl at *
    go_enter Tryd.func21, Tryd.ntmps21
    go_wp2_with fail
    go_ret
    exact HZ.out
  have HPS : Hid (psave m.pd n b = if (pRemove m.pd (draft n)).2 ≠ 0 ∧ (pRemove m.pd (draft n)).2 ≠ 60 then pRemove m.pd (draft n)
      else if (pAppend (pRemove m.pd (draft n)).1 (draft n) (pk b)).2 ≠ 0 then pAppend (pRemove m.pd (draft n)).1 (draft n) (pk b)
      else if (pSync (pAppend (pRemove m.pd (draft n)).1 (draft n) (pk b)).1 (draft n)).2 ≠ 0 then pSync (pAppend (pRemove m.pd (draft n)).1 (draft n) (pk b)).1 (draft n)
      else pRename (pSync (pAppend (pRemove m.pd (draft n)).1 (draft n) (pk b)).1 (draft n)).1 (draft n) n) := by
    show _ = _
    unfold psave
    rw [if_neg (by omega)]
  have hdl : (draft n).length ≤ maxLen := by have := HDN.out; unfold maxLen; omega
  have hnl : n.length ≤ maxLen := by unfold maxLen; omega
  have HDL := Lib.hid hdl
  have hr1 := rremove_any w base m h ht hb0 (draft n)
  rw [← HND.out] at hr1
  have HR := Lib.hid hr1
  have z1 : ¬ (bstr n).size < 1 := by omega
  have z3 : ¬ 15 < (bstr n).size := by omega
  have z2 : (bstr n).size ≤ 15 := by omega
  have HNL := Lib.hid hnl
  have HFR : Hid (PFit (pRemove m.pd (draft n)).1) := HFT.out.remove _
  generalize psave m.pd n b = rr at *
  clear h ht hb hc z0 hdl hnl hr1 hn hl0 hl1
  obtain ⟨bl, hbl'⟩ : ∃ bl, bl = b.length := ⟨_, rfl⟩
  have HBL := Lib.hid hbl'
  rw [← hbl'] at hbl ⊢
  clear hbl'
  obtain ⟨nm, hnm⟩ : ∃ nm, nm = bstr n := ⟨_, rfl⟩
  rw [← hnm] at z1 z2 z3 HR HND ⊢
  have HNM := Lib.hid hnm
  clear hnm
  go_enter Tryd.func21, Tryd.ntmps21
  go_wp2_with fail
  refine HR.out.mono ?_
  clear HR
  rintro e w1 ⟨rfl, m1, hm1, hp1⟩
  have HM1 := Lib.hid hm1
  have HP1 := Lib.hid hp1
  clear hm1 hp1
  generalize pRemove m.pd (draft n) = r1 at *
  obtain ⟨p1, e1⟩ := r1
  dsimp only at HM1 HFR HPS ⊢
  have HFT1 : Hid (PFit m1.pd) := by show PFit _; rw [HM1.out]; exact HFR.out
  clear HFR
  by_cases h10 : e1 = 0
  · subst h10
    have hpk := rpack_any w1 A c b ⟨HHB.out.1.fr' HP1.out.fr fun hpos k hk hlo => HSF.out (by rw [cb_length] at hpos; exact hpos) k hk hlo, HHB.out.2⟩ HC.out (by have := HBL.out; omega)
    rw [← HBL.out] at hpk
    have HPK := Lib.hid hpk
    clear hpk
    go_wp2_with fail
    refine HPK.out.mono ?_
    clear HPK
    rintro e w2 ⟨v2, rfl, hn2⟩
    obtain ⟨A2, c2, rfl, hc2, hA2⟩ := own_form hn2.own
    have HP2 := Lib.hid (HP1.out.more hn2.fr)
    have hap := rappend_any w2 base m1 HP2.out.rin HFT1.out.rfit (Nat.le_trans hb0 HP2.out.fr.size) (draft n) HDL.out A2 c2 (pk b) (Rd.of_own hn2.own) hA2 (by have := pk_len b (by rw [← HBL.out]; omega); rw [← HBL.out] at this; omega) (fun _ k hk ho => by
      have h1 := (own_abl hn2.own hk).1
      have h2 := (HP1.out.rin.own ho).2
      omega)
    rw [HM1.out, ← HND.out, HP2.out.g] at hap
    have HAP := Lib.hid hap
    have HFT2 : Hid (PFit (pAppend p1 (draft n) (pk b)).1) := by
      have := HFT1.out
      rw [HM1.out] at this
      exact this.append _ _
    clear hap hn2 hc2 hA2
    generalize (pk b).length = pl at *
    go_wp2_with fail
    refine HAP.out.mono ?_
    clear HAP
    rintro e w3 ⟨rfl, m2, hm2, hp3⟩
    have HP3 := Lib.hid (HP2.out.trans hp3)
    have HM2 := Lib.hid hm2
    clear hp3 hm2
    generalize pAppend p1 (draft n) (pk b) = r2 at *
    obtain ⟨p2, e2⟩ := r2
    dsimp only at HM2 HFT2 HPS ⊢
    by_cases h20 : e2 = 0
    · subst h20
      have hft2 : PFit m2.pd := by rw [HM2.out]; exact HFT2.out
      have hsy := rsync_any w3 base m2 HP3.out.rin hft2.rfit (draft n)
      rw [HM2.out, ← HND.out, HP3.out.g] at hsy
      have HSY := Lib.hid hsy
      have HFT3 : Hid (PFit (pSync p2 (draft n)).1) := HFT2.out.sync _
      clear hsy hft2
      go_wp2_with fail
      refine HSY.out.mono ?_
      clear HSY
      rintro e w4 ⟨rfl, m3, hm3, hp4⟩
      have HP4 := Lib.hid (HP3.out.trans hp4)
      have HM3 := Lib.hid hm3
      clear hp4 hm3
      generalize pSync p2 (draft n) = r3 at *
      obtain ⟨p3, e3⟩ := r3
      dsimp only at HM3 HFT3 HPS ⊢
      by_cases h30 : e3 = 0
      · subst h30
        have hft3 : PFit m3.pd := by rw [HM3.out]; exact HFT3.out
        have hre := rrename_any w4 base m3 HP4.out.rin hft3.rfit (Nat.le_trans hb0 HP4.out.fr.size) (draft n) n HNL.out
        rw [HM3.out, ← HND.out, ← HNM.out, HP4.out.g] at hre
        have HRE := Lib.hid hre
        clear hre hft3
        go_wp2_with fail
        refine HRE.out.mono ?_
        clear HRE
        rintro e w5 ⟨rfl, m4, hm4, hp5⟩
        have HZ : Hid (REnd w base m rr (.returned (.int .i64 (pRename p3 (draft n) n).2)) w5) := by
          rw [HPS.out, if_neg (by simp), if_neg (by simp), if_neg (by simp)]
          exact ⟨rfl, m4, hm4, HP4.out.trans hp5⟩
        clear hm4 hp5
        go_wp2_with fail
        go_ret
        exact HZ.out
      · have t1 : (e3 != 0) = true := by rw [bne_iff_ne]; exact h30
        have HZ : Hid (REnd w base m rr (.returned (.int .i64 e3)) w4) := by
          rw [HPS.out, if_neg (by simp), if_neg (by simp), if_pos h30]
          exact ⟨rfl, m3, HM3.out, HP4.out⟩
        go_wp2_with fail
        go_ret
        exact HZ.out
    · have t1 : (e2 != 0) = true := by rw [bne_iff_ne]; exact h20
      have HZ : Hid (REnd w base m rr (.returned (.int .i64 e2)) w3) := by
        rw [HPS.out, if_neg (by simp), if_pos h20]
        exact ⟨rfl, m2, HM2.out, HP3.out⟩
      go_wp2_with fail
      go_ret
      exact HZ.out
  by_cases h16 : e1 = 60
  · subst h16
    have hpk := rpack_any w1 A c b ⟨HHB.out.1.fr' HP1.out.fr fun hpos k hk hlo => HSF.out (by rw [cb_length] at hpos; exact hpos) k hk hlo, HHB.out.2⟩ HC.out (by have := HBL.out; omega)
    rw [← HBL.out] at hpk
    have HPK := Lib.hid hpk
    clear hpk
    go_wp2_with fail
    refine HPK.out.mono ?_
    clear HPK
    rintro e w2 ⟨v2, rfl, hn2⟩
    obtain ⟨A2, c2, rfl, hc2, hA2⟩ := own_form hn2.own
    have HP2 := Lib.hid (HP1.out.more hn2.fr)
    have hap := rappend_any w2 base m1 HP2.out.rin HFT1.out.rfit (Nat.le_trans hb0 HP2.out.fr.size) (draft n) HDL.out A2 c2 (pk b) (Rd.of_own hn2.own) hA2 (by have := pk_len b (by rw [← HBL.out]; omega); rw [← HBL.out] at this; omega) (fun _ k hk ho => by
      have h1 := (own_abl hn2.own hk).1
      have h2 := (HP1.out.rin.own ho).2
      omega)
    rw [HM1.out, ← HND.out, HP2.out.g] at hap
    have HAP := Lib.hid hap
    have HFT2 : Hid (PFit (pAppend p1 (draft n) (pk b)).1) := by
      have := HFT1.out
      rw [HM1.out] at this
      exact this.append _ _
    clear hap hn2 hc2 hA2
    generalize (pk b).length = pl at *
    go_wp2_with fail
    refine HAP.out.mono ?_
    clear HAP
    rintro e w3 ⟨rfl, m2, hm2, hp3⟩
    have HP3 := Lib.hid (HP2.out.trans hp3)
    have HM2 := Lib.hid hm2
    clear hp3 hm2
    generalize pAppend p1 (draft n) (pk b) = r2 at *
    obtain ⟨p2, e2⟩ := r2
    dsimp only at HM2 HFT2 HPS ⊢
    by_cases h20 : e2 = 0
    · subst h20
      have hft2 : PFit m2.pd := by rw [HM2.out]; exact HFT2.out
      have hsy := rsync_any w3 base m2 HP3.out.rin hft2.rfit (draft n)
      rw [HM2.out, ← HND.out, HP3.out.g] at hsy
      have HSY := Lib.hid hsy
      have HFT3 : Hid (PFit (pSync p2 (draft n)).1) := HFT2.out.sync _
      clear hsy hft2
      go_wp2_with fail
      refine HSY.out.mono ?_
      clear HSY
      rintro e w4 ⟨rfl, m3, hm3, hp4⟩
      have HP4 := Lib.hid (HP3.out.trans hp4)
      have HM3 := Lib.hid hm3
      clear hp4 hm3
      generalize pSync p2 (draft n) = r3 at *
      obtain ⟨p3, e3⟩ := r3
      dsimp only at HM3 HFT3 HPS ⊢
      by_cases h30 : e3 = 0
      · subst h30
        have hft3 : PFit m3.pd := by rw [HM3.out]; exact HFT3.out
        have hre := rrename_any w4 base m3 HP4.out.rin hft3.rfit (Nat.le_trans hb0 HP4.out.fr.size) (draft n) n HNL.out
        rw [HM3.out, ← HND.out, ← HNM.out, HP4.out.g] at hre
        have HRE := Lib.hid hre
        clear hre hft3
        go_wp2_with fail
        refine HRE.out.mono ?_
        clear HRE
        rintro e w5 ⟨rfl, m4, hm4, hp5⟩
        have HZ : Hid (REnd w base m rr (.returned (.int .i64 (pRename p3 (draft n) n).2)) w5) := by
          rw [HPS.out, if_neg (by simp), if_neg (by simp), if_neg (by simp)]
          exact ⟨rfl, m4, hm4, HP4.out.trans hp5⟩
        clear hm4 hp5
        go_wp2_with fail
        go_ret
        exact HZ.out
      · have t1 : (e3 != 0) = true := by rw [bne_iff_ne]; exact h30
        have HZ : Hid (REnd w base m rr (.returned (.int .i64 e3)) w4) := by
          rw [HPS.out, if_neg (by simp), if_neg (by simp), if_pos h30]
          exact ⟨rfl, m3, HM3.out, HP4.out⟩
        go_wp2_with fail
        go_ret
        exact HZ.out
    · have t1 : (e2 != 0) = true := by rw [bne_iff_ne]; exact h20
      have HZ : Hid (REnd w base m rr (.returned (.int .i64 e2)) w3) := by
        rw [HPS.out, if_neg (by simp), if_pos h20]
        exact ⟨rfl, m2, HM2.out, HP3.out⟩
      go_wp2_with fail
      go_ret
      exact HZ.out
  have t1 : (e1 != 0) = true := by rw [bne_iff_ne]; exact h10
  have t2 : (e1 != 60) = true := by rw [bne_iff_ne]; exact h16
  have HZ : Hid (REnd w base m rr (.returned (.int .i64 e1)) w1) := by
    rw [HPS.out, if_pos ⟨h10, h16⟩]
    exact ⟨rfl, m1, HM1.out, HP1.out⟩
  go_wp2_with fail
  go_ret
  exact HZ.out
end Go.Proofs.YtokonhcphhpogaaDoor
