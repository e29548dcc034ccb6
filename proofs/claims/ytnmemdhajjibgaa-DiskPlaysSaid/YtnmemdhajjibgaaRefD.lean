/- The document's disk as the world holds it. No condition but lengths. -/
import Derived.Test.YtnmemdhajjibgaaCut
import Derived.Test.YtnmemdhajjibgaaTwiceP
namespace Go.Proofs.Ytnmemdhajjibgaa
open Go.RowKit

/-- a file of the document's disk: where its bytes lie. -/
structure RF where
  pf : PF
  A : Option Addr
  c : Nat
structure RM where
  g : Nat
  room : Nat
  left : Int
  down : Bool
  FA : Option Addr
  FC : Nat
  fs : List RF
abbrev RM.pfs (m : RM) : List PF := m.fs.map RF.pf
def RM.pd (m : RM) : PD := ⟨m.room, m.left, m.down, m.pfs⟩
def RM.cells (m : RM) : Array Value := #[.int .i64 m.room, .slice m.FA m.fs.length m.FC, .int .i64 m.left, .bool m.down]
def rfc (f : RF) : List Value := [st f.pf.name, .slice f.A f.pf.data.length f.c, .int .i64 f.pf.last]
def rfcs (xs : List RF) : List Value := xs.flatMap rfc
theorem rfcs_len (xs : List RF) : (rfcs xs).length = xs.length * 3 := by
  induction xs with
  | nil => rfl
  | cons x t ih =>
    show (rfc x ++ rfcs t).length = _
    rw [List.length_append, ih, List.length_cons]
    show 3 + _ = _
    omega
theorem rfcs_append (xs ys : List RF) : rfcs (xs ++ ys) = rfcs xs ++ rfcs ys := List.flatMap_append ..
theorem rfcs_get (xs : List RF) (k : Nat) (x : RF) (h : xs[k]? = some x) (j : Nat) (hj : j < 3) : (rfcs xs)[k * 3 + j]? = (rfc x)[j]? := by
  induction xs generalizing k with
  | nil => cases h
  | cons y t ih =>
    cases k with
    | zero =>
      injection h with h
      subst h
      show (rfc y ++ rfcs t)[_]? = _
      rw [List.getElem?_append_left (by show _ < 3; omega), Nat.zero_mul, Nat.zero_add]
    | succ k =>
      show (rfc y ++ rfcs t)[_]? = _
      rw [List.getElem?_append_right (by show 3 ≤ _; omega), show (k + 1) * 3 + j - (rfc y).length = k * 3 + j from by show _ - 3 = _; omega]
      exact ih k h
theorem rfcs_set (xs : List RF) (k : Nat) (x y : RF) (h : xs[k]? = some x) (j : Nat) (hj : j < 3) (u : Value) (hu : (rfc x).set j u = rfc y) : (rfcs xs).set (k * 3 + j) u = rfcs (xs.set k y) := by
  induction xs generalizing k with
  | nil => cases h
  | cons z t ih =>
    cases k with
    | zero =>
      injection h with h
      subst h
      show (rfc z ++ rfcs t).set _ _ = rfc y ++ rfcs t
      rw [Nat.zero_mul, Nat.zero_add, List.set_append_left _ _ (by show _ < 3; omega), hu]
    | succ k =>
      show (rfc z ++ rfcs t).set _ _ = rfc z ++ rfcs (t.set k y)
      rw [List.set_append_right _ _ (by show 3 ≤ _; omega), show (k + 1) * 3 + j - (rfc z).length = k * 3 + j from by show _ - 3 = _; omega, ih k h]
theorem rfcs_one (xs : List RF) : ∀ u ∈ rfcs xs, u.oneCell' = true := by
  intro u hu
  simp only [rfcs, List.mem_flatMap, rfc, List.mem_cons, List.not_mem_nil, or_false] at hu
  obtain ⟨x, _, rfl | rfl | rfl⟩ := hu <;> rfl

/-- bytes as the document's disk holds them: memory made behind base, never written again. -/
structure DOk (w : World) (base : Nat) (A : Option Addr) (c : Nat) (d : Bs) : Prop where
  rd : Rd w A (cb d)
  le : d.length ≤ c
  max : c ≤ maxLen
  nil : A = none → c = 0
  blk : 0 < d.length → ∀ k, ablk A k → base ≤ k ∧ ∃ cs, Bk w k 5 cs
theorem DOk.fr {C : Nat → Prop} {w w' : World} {base : Nat} {A : Option Addr} {c : Nat} {d : Bs} (h : DOk w base A c d) (hf : Fr C w w') (hn : 0 < d.length → ∀ k, ablk A k → ¬ C k) : DOk w' base A c d :=
  ⟨h.rd.fr' hf fun hp => hn (by rwa [cb_length] at hp), h.le, h.max, h.nil, fun hp k hk => ⟨(h.blk hp k hk).1, let ⟨cs, hb⟩ := (h.blk hp k hk).2; ⟨cs, hb.fr hf (hn hp k hk)⟩⟩⟩
theorem DOk.nofr {w w' : World} {base : Nat} {A : Option Addr} {c : Nat} {d : Bs} (h : DOk w base A c d) (hf : Fr NoBlk w w') : DOk w' base A c d := h.fr hf fun _ _ _ h => h
theorem DOk.ofOwn {w : World} {base n : Nat} {A : Option Addr} {c : Nat} {d : Bs} (h : w.ownsRow base 5 1 (.slice A n c) n (cb d)) (hn : n = d.length) : DOk w base A c d := by
  subst hn
  refine ⟨Rd.of_own h, ?_, ?_, ?_, fun hp k hk => ?_⟩
  · obtain ⟨A', c', e, h1, _⟩ := own_form h
    injection e with _ _ e
    subst e; exact h1
  · rcases h.2 with ⟨hv, _⟩ | ⟨g, cap, cur, hv, _, _, _, hm, _⟩
    · injection hv with _ _ e
      subst e; exact Nat.zero_le _
    · injection hv with _ _ e
      subst e; exact hm
  · obtain ⟨A', c', e, _, h1⟩ := own_form h
    injection e with e1 _ e
    subst e e1; exact h1
  · rcases h.2 with ⟨hv, _⟩ | ⟨g, cap, cur, hv, hb, hg, _⟩
    · injection hv with e1 _ e
      subst e1
      obtain ⟨_, e, _⟩ := hk
      cases e
    · injection hv with e1 _ e
      subst e1
      obtain ⟨_, e, rfl⟩ := hk
      injection e with e
      subst e
      exact ⟨hb, cur, hg⟩
theorem DOk.cut {w : World} {base : Nat} {A : Option Addr} {c : Nat} {d : Bs} (h : DOk w base A c d) (n : Nat) : DOk w base A c (d.take n) :=
  ⟨by rw [cb_take]; exact h.rd.take n, by rw [List.length_take]; have := h.le; omega, h.max, h.nil, fun hp => h.blk (by rw [List.length_take] at hp; omega)⟩
theorem DOk.empty (w : World) (base : Nat) : DOk w base none 0 [] := ⟨Rd.none_ _ _, Nat.le_refl _, Nat.zero_le _, fun _ => rfl, fun h => absurd h (by simp)⟩

structure RIn (w : World) (base : Nat) (m : RM) : Prop where
  bk : Bk w m.g 61 m.cells
  gb : base ≤ m.g
  row : w.ownsRow base 68 3 (.slice m.FA m.fs.length m.FC) m.fs.length (rfcs m.fs)
  dat : ∀ f ∈ m.fs, DOk w base f.A f.c f.pf.data
/-- the blocks that a call of the document's may turn. -/
def RM.own (m : RM) (k : Nat) : Prop := k = m.g ∨ ablk m.FA k
def RM.blk (m : RM) (k : Nat) : Prop := m.own k ∨ ∃ f ∈ m.fs, 0 < f.pf.data.length ∧ ablk f.A k
section
variable {C : Nat → Prop} {w w' : World} {base : Nat} {m m' m'' : RM}
theorem own_abl {base : Nat} {e : TypeId} {size n c : Nat} {A : Option Addr} {xs : List Value} (h : w.ownsRow base e size (.slice A n c) n xs) {k : Nat} (hk : ablk A k) : base ≤ k ∧ ∃ cs, Bk w k e cs := by
  rcases h.2 with ⟨hv, _⟩ | ⟨g, cap, cur, hv, hb, hg, _⟩
  · injection hv with e1 _ e
    subst e1
    obtain ⟨_, e, _⟩ := hk
    cases e
  · injection hv with e1 _ e
    subst e1
    obtain ⟨_, e, rfl⟩ := hk
    injection e with e
    subst e
    exact ⟨hb, cur, hg⟩
theorem RIn.own (h : RIn w base m) {k : Nat} (hk : m.own k) : base ≤ k ∧ k < w.heap.size := by
  rcases hk with rfl | hk
  · exact ⟨h.gb, h.bk.lt⟩
  · obtain ⟨h1, cs, h2⟩ := own_abl h.row hk
    exact ⟨h1, h2.lt⟩
theorem RIn.blk (h : RIn w base m) {k : Nat} (hk : m.blk k) : base ≤ k ∧ k < w.heap.size := by
  rcases hk with hk | ⟨f, hf, hp, hk⟩
  · exact h.own hk
  · obtain ⟨h1, cs, h2⟩ := (h.dat f hf).blk hp k hk
    exact ⟨h1, h2.lt⟩
theorem RIn.fr (h : RIn w base m) (hf : Fr C w w') (hn : ∀ k, m.blk k → ¬ C k) : RIn w' base m :=
  ⟨h.bk.fr hf (hn _ (.inl (.inl rfl))), h.gb, own_fr h.row hf fun k hk => hn k (.inl (.inr (by
    cases hA : m.FA with
    | none => rw [hA] at hk; cases hk
    | some a => rw [hA] at hk; injection hk with hk; exact ⟨a, rfl, hk⟩))), fun f hff => (h.dat f hff).fr hf fun hp k hk => hn k (.inr ⟨f, hff, hp, hk⟩)⟩
theorem RIn.nofr (h : RIn w base m) (hf : Fr NoBlk w w') : RIn w' base m := h.fr hf fun _ _ h => h
/-- what a file's bytes lie in isn't what a call may turn. -/
theorem RIn.apart (h : RIn w base m) {A : Option Addr} {c : Nat} {d : Bs} (hd : DOk w base A c d) : 0 < d.length → ∀ k, ablk A k → ¬ m.own k := by
  intro hp k hk ho
  obtain ⟨_, cs, hb⟩ := hd.blk hp k hk
  rcases ho with rfl | ho
  · exact Bk.apart hb h.bk (by decide) rfl
  · obtain ⟨_, cs', hb'⟩ := own_abl h.row ho
    exact Bk.apart hb hb' (by decide) rfl
theorem RIn.file (h : RIn w base m) {k : Nat} {f : RF} (hx : m.fs[k]? = some f) :
    ∃ b, m.FA = some ⟨b, 0, none⟩ ∧ b ≠ m.g ∧ w.cell? ⟨b, k * 3, none⟩ = some (.string (bstr f.pf.name)) ∧ w.cell? ⟨b, k * 3 + 1, none⟩ = some (.slice f.A f.pf.data.length f.c) ∧ w.cell? ⟨b, k * 3 + 2, none⟩ = some (.int .i64 f.pf.last) ∧ (∀ i, w.frozen? ⟨b, i, none⟩ = false) := by
  have hk := (List.getElem?_eq_some_iff.1 hx).1
  rcases h.row.2 with ⟨hv, hn⟩ | ⟨b, cap, cur, hv, _, hh, hnc, _, hcs, htake⟩
  · omega
  · have hA : m.FA = some ⟨b, 0, none⟩ := by injection hv
    have key : ∀ j, j < 3 → w.cell? ⟨b, k * 3 + j, none⟩ = (rfc f)[j]? := fun j hj => by
      rw [cell_of_row w b _ cur _ (0, 0) hh, ← rfcs_get m.fs k f hx j hj, ← htake, List.getElem?_take]
      rw [if_pos (by omega)]
      simp
    refine ⟨b, hA, fun e => ?_, key 0 (by omega), key 1 (by omega), key 2 (by omega), fun i => Bk.free (t := 68) (cs := cur) hh i⟩
    exact Bk.apart (t := 68) (cs := cur) hh h.bk (by decide) e
theorem RIn.cell (h : RIn w base m) : w.cell? ⟨m.g, 0, none⟩ = some (.int .i64 m.room) ∧ w.cell? ⟨m.g, 1, none⟩ = some (.slice m.FA m.fs.length m.FC) ∧ w.cell? ⟨m.g, 2, none⟩ = some (.int .i64 m.left) ∧ w.cell? ⟨m.g, 3, none⟩ = some (.bool m.down) :=
  ⟨h.bk.cell 0, h.bk.cell 1, h.bk.cell 2, h.bk.cell 3⟩
/-- what a call of the document's leaves. -/
structure RPost (w w' : World) (base : Nat) (m m' : RM) : Prop where
  rin : RIn w' base m'
  g : m'.g = m.g
  fr : Fr m.own w w'
  own : ∀ k, m'.own k → m.own k ∨ w.heap.size ≤ k
  blk : ∀ k, m'.blk k → m.blk k ∨ w.heap.size ≤ k
theorem RPost.refl (h : RIn w base m) : RPost w w base m m := ⟨h, rfl, Fr.refl _ _, fun _ => .inl, fun _ => .inl⟩
theorem RPost.trans {w'' : World} (h : RPost w w' base m m') (h2 : RPost w' w'' base m' m'') : RPost w w'' base m m'' :=
  ⟨h2.rin, h2.g.trans h.g, h.fr.step h2.fr fun k hk hc => (h.own k hc).elim id fun h => by omega, fun k hk => (h2.own k hk).elim (h.own k) fun h3 => .inr (by have := h.fr.size; omega), fun k hk => (h2.blk k hk).elim (h.blk k) fun h3 => .inr (by have := h.fr.size; omega)⟩
theorem RPost.more {w'' : World} (h : RPost w w' base m m') (hf : Fr NoBlk w' w'') : RPost w w'' base m m' :=
  ⟨h.rin.nofr hf, h.g, h.fr.trans (hf.mono fun _ _ h => h.elim), h.own, h.blk⟩
/-- the disk beside it stays. -/
theorem AtS.ref {v : World} {gd : Nat} {p : PD} (h : AtS v w gd p m.blk) (hr : RIn w v.heap.size m) (hp : RPost w w' v.heap.size m m') : AtS v w' gd p m'.blk :=
  h.prot hp.fr (fun _ _ hc => ⟨.inl hc, (hr.own hc).1⟩) hp.blk
/-- the box's cells turn, the files stay. -/
theorem RIn.box (h : RIn w base m) (hf : Fr (fun k => k = m.g) w w') (hb : Bk w' m.g 61 m'.cells) (h1 : m'.g = m.g) (h2 : m'.FA = m.FA) (h3 : m'.FC = m.FC) (h4 : m'.fs = m.fs) : RPost w w' base m m' := by
  have e : m'.own = m.own := by unfold RM.own; rw [h1, h2]
  have e2 : m'.blk = m.blk := by unfold RM.blk; rw [e, h4]
  refine ⟨⟨by rw [h1]; exact hb, by rw [h1]; exact h.gb, ?_, ?_⟩, h1, hf.mono fun k _ hk => .inl hk, fun k hk => .inl (e ▸ hk), fun k hk => .inl (e2 ▸ hk)⟩
  · rw [h2, h3, h4]
    exact own_fr h.row hf fun k hk => fun e => own_apart h.row h.bk (by decide) (e ▸ hk)
  · rw [h4]
    exact fun f hff => (h.dat f hff).fr hf fun hp k hk e => h.apart (h.dat f hff) hp k hk (.inl e)
/-- a file's place. -/
def PIdx (L : List PF) (k : Bs) (z : Int) : Prop := (z = -1 ∧ pfind L k = none) ∨ ∃ (j : Nat) (f : PF), z = j ∧ L[j]? = some f ∧ f.name = k ∧ pfind L k = some f
theorem pfind_at : ∀ (L : List PF) (k : Bs) (j : Nat) (f : PF), L[j]? = some f → f.name = k → (∀ i g, i < j → L[i]? = some g → (g.name == k) = false) → pfind L k = some f
  | [], _, _, _, h, _, _ => by cases h
  | g :: t, k, 0, f, h, e, _ => by
    injection h with h
    subst h
    unfold pfind
    rw [if_pos e]
  | g :: t, k, j + 1, f, h, e, hb => by
    have h0 := hb 0 g (by omega) rfl
    unfold pfind
    rw [if_neg (by simpa using h0)]
    exact pfind_at t k j f h e fun i g' hi hg => hb (i + 1) g' (by omega) hg
theorem pfind_no : ∀ (L : List PF) (k : Bs), (∀ (i : Nat) g, L[i]? = some g → (g.name == k) = false) → pfind L k = none
  | [], _, _ => rfl
  | g :: t, k, h => by
    have h0 := h 0 g rfl
    unfold pfind
    rw [if_neg (by simpa using h0)]
    exact pfind_no t k fun i g' hg => h (i + 1) g' hg
end

set_option maxRecDepth 100000 in
theorem rat_any (w : World) (base : Nat) (m : RM) (h : RIn w base m) (key : Bs) (hl : m.fs.length ≤ 1000) :
    Calls Try.prog 56 #[.pointer (some ⟨m.g, 0, none⟩), .string (bstr key)] w fun e w' => (∃ z, e = .returned (.int .i64 z) ∧ PIdx m.pfs key z) ∧ w = w' := by
  obtain ⟨_, c1, _, _⟩ := h.cell
  have HR := Lib.hid h
  have hgl := h.bk.lt
  clear h
  go_enter Try.func56, Try.ntmps56
  go_wp2_with fail
  go_loop [5] (fun z => ∃ k : Nat, k ≤ m.fs.length ∧ z = .int .i64 k ∧ Hid (∀ (i : Nat) (g : PF), i < k → m.pfs[i]? = some g → (g.name == key) = false)) (fun z => m.fs.length - (intOf z).toNat)
  case atStart => exact ⟨0, by omega, rfl, (fun i g h1 => absurd h1 (by omega))⟩
  case round =>
    obtain ⟨k, hk, rfl, HL⟩ := hrel
    by_cases hlt : k < m.fs.length
    · obtain ⟨f, hf⟩ : ∃ f, m.fs[k]? = some f := ⟨_, List.getElem?_eq_getElem hlt⟩
      obtain ⟨b, hA, hne, q0, q1, q2, hfz⟩ := HR.out.file hf
      have HPF : Hid (m.pfs[k]? = some f.pf) := by show (m.fs.map RF.pf)[k]? = _; rw [List.getElem?_map, hf]; rfl
      rw [hA] at c1
      have e3 := bstr_toList key
      have e4 := bstr_toList f.pf.name
      clear hf hA hne q1 q2 hfz
      cases hb : f.pf.name == key
      · have HY : Hid (∀ (i : Nat) (g : PF), i < k + 1 → m.pfs[i]? = some g → (g.name == key) = false) := by
          intro i g h1 h2
          by_cases e : i = k
          · subst e
            rw [HPF.out] at h2
            injection h2 with h2
            subst h2
            exact hb
          · exact HL.out i g (by omega) h2
        generalize f.pf.name = y at *
        go_wp2_with fail
        go_round
        case rel => exact ⟨k + 1, by omega, by go_num, HY⟩
        case measure => simp [intOf]; omega
      · have HZ : Hid (PIdx m.pfs key k) := .inr ⟨k, f.pf, rfl, HPF.out, by simpa using hb, pfind_at _ _ k f.pf HPF.out (by simpa using hb) HL.out⟩
        generalize f.pf.name = y at *
        go_wp2_with fail
        go_ret
        exact ⟨⟨_, rfl, HZ.out⟩, rfl⟩
    · have HZ : Hid (PIdx m.pfs key (-1)) := .inl ⟨rfl, pfind_no _ _ fun i g hg => HL.out i g (by have := (List.getElem?_eq_some_iff.1 hg).1; rw [List.length_map] at this; omega) hg⟩
      go_wp2_with fail
      go_ret
      exact ⟨⟨_, rfl, HZ.out⟩, rfl⟩

def psum : List RF → Nat
  | [] => 0
  | f :: t => f.pf.data.length + psum t
theorem psum_total (L : List RF) : psum L = ptotal (L.map RF.pf) := by
  induction L with
  | nil => rfl
  | cons f t ih => show _ + psum t = _ + ptotal _; rw [ih]
theorem psum_step (L : List RF) (k : Nat) (f : RF) (h : L[k]? = some f) : psum (L.take (k + 1)) = psum (L.take k) + f.pf.data.length := by
  induction L generalizing k with
  | nil => cases h
  | cons g t ih =>
    cases k with
    | zero => injection h with h; subst h; simp [psum]
    | succ k =>
      show g.pf.data.length + psum (t.take (k + 1)) = g.pf.data.length + psum (t.take k) + _
      rw [ih k h]; omega
theorem psum_take (L : List RF) (k : Nat) : psum (L.take k) ≤ psum L := by
  induction L generalizing k with
  | nil => simp [psum]
  | cons g t ih =>
    cases k with
    | zero => simp [psum]
    | succ k =>
      show g.pf.data.length + psum (t.take k) ≤ g.pf.data.length + psum t
      have := ih k; omega
set_option maxRecDepth 100000 in
theorem rused_any (w : World) (base : Nat) (m : RM) (h : RIn w base m) (hl : m.fs.length ≤ 1000) (ht : ptotal m.pfs ≤ 1048576) :
    Calls Try.prog 29 #[.pointer (some ⟨m.g, 0, none⟩)] w fun e w' => e = .returned (.int .i64 (ptotal m.pfs)) ∧ w = w' := by
  obtain ⟨_, c1, _, _⟩ := h.cell
  have HR := Lib.hid h
  have hgl := h.bk.lt
  have HTOT := Lib.hid (psum_total m.fs)
  rw [← HTOT.out] at ht ⊢
  clear h
  go_enter Try.func29, Try.ntmps29
  go_wp2_with fail
  go_loop [3, 4] (fun s z => ∃ k : Nat, k ≤ m.fs.length ∧ z = .int .i64 k ∧ s = .int .i64 (psum (m.fs.take k) : Nat)) (fun _ z => m.fs.length - (intOf z).toNat)
  case atStart => exact ⟨0, by omega, rfl, by simp [psum]⟩
  case round =>
    obtain ⟨k, hk, rfl, rfl⟩ := hrel
    by_cases hlt : k < m.fs.length
    · obtain ⟨f, hf⟩ : ∃ f, m.fs[k]? = some f := ⟨_, List.getElem?_eq_getElem hlt⟩
      obtain ⟨b, hA, hne, q0, q1, q2, hfz⟩ := HR.out.file hf
      rw [hA] at c1
      have HS := Lib.hid (psum_step m.fs k f hf)
      have hle := psum_take m.fs (k + 1)
      rw [HS.out] at hle
      generalize psum (m.fs.take k) = s at *
      generalize f.pf.data.length = dn at *
      clear hf hA hne q0 q2 hfz
      go_wp2_with fail
      go_round
      case rel => exact ⟨k + 1, by omega, by go_num, by rw [HS.out]; go_num⟩
      case measure => simp [intOf]; omega
    · obtain rfl : k = m.fs.length := by omega
      rw [List.take_length]
      go_wp2_with fail
      go_ret
      exact ⟨rfl, rfl⟩

def rspend (m : RM) : RM := if m.left = 0 then { m with down := true } else if 0 < m.left then { m with left := m.left - 1 } else m
theorem rspend_pd (m : RM) : (rspend m).pd = pspend m.pd := by
  unfold rspend pspend
  show _ = if m.left = 0 then _ else if 0 < m.left then _ else _
  split
  · rfl
  · split <;> rfl
theorem rspend_fs (m : RM) : (rspend m).fs = m.fs ∧ (rspend m).g = m.g ∧ (rspend m).FA = m.FA ∧ (rspend m).FC = m.FC ∧ (rspend m).room = m.room := by
  unfold rspend
  split
  · exact ⟨rfl, rfl, rfl, rfl, rfl⟩
  · split <;> exact ⟨rfl, rfl, rfl, rfl, rfl⟩
set_option maxRecDepth 100000 in
theorem ruse_any (w : World) (base : Nat) (m : RM) (h : RIn w base m) (hl : -9223372036854775808 ≤ m.left ∧ m.left ≤ 9223372036854775807) :
    Calls Try.prog 51 #[.pointer (some ⟨m.g, 0, none⟩)] w fun e w' => e = .returned (.bool (!decide (m.left = 0))) ∧ RPost w w' base m (rspend m) := by
  obtain ⟨_, _, c2, _⟩ := h.cell
  have HR := Lib.hid h
  have hgl := h.bk.lt
  have hz2 := h.bk.free 2
  have hz3 := h.bk.free 3
  obtain ⟨q, hq⟩ : ∃ q, q = rspend m := ⟨_, rfl⟩
  have HQ := Lib.hid hq
  rw [← hq]
  clear h hq
  unfold rspend at HQ
  by_cases h0 : m.left = 0
  · have HP := HR.out.bk.put 3 (.bool true)
    have HF := Lib.hid ((Fr.refl (fun k => k = m.g) w).setCell (p := ⟨m.g, 3, none⟩) (fun _ => rfl) (.bool true))
    have HQ2 := HQ.out
    rw [if_pos h0] at HQ2
    subst HQ2
    have HZ := Lib.hid (HR.out.box HF.out (m' := { m with down := true }) HP rfl rfl rfl rfl)
    have c2' : w.cell? ⟨m.g, 2, none⟩ = some (.int .i64 0) := by rw [c2, h0]
    have e0 : decide (m.left = 0) = true := decide_eq_true h0
    rw [e0]
    clear HP HF HQ c2 h0 e0 hl
    go_enter Try.func51, Try.ntmps51
    go_wp2_with fail
    go_ret
    exact ⟨rfl, HZ.out⟩
  · have HQ2 := HQ.out
    rw [if_neg h0] at HQ2
    clear HQ
    have e0 : decide (m.left = 0) = false := decide_eq_false h0
    rw [e0]
    by_cases h1 : 0 < m.left
    · rw [if_pos h1] at HQ2
      subst HQ2
      have HP := HR.out.bk.put 2 (.int .i64 (m.left - 1))
      have HF := Lib.hid ((Fr.refl (fun k => k = m.g) w).setCell (p := ⟨m.g, 2, none⟩) (fun _ => rfl) (.int .i64 (m.left - 1)))
      have HZ := Lib.hid (HR.out.box HF.out (m' := { m with left := m.left - 1 }) HP rfl rfl rfl rfl)
      have ew : IntKind.i64.wrap (m.left - 1) = m.left - 1 := IntWalk.i64_in _ (by omega)
      clear HP HF e0
      go_enter Try.func51, Try.ntmps51
      go_wp2_with fail
      go_ret
      exact ⟨rfl, HZ.out⟩
    · rw [if_neg h1] at HQ2
      subst HQ2
      have HZ := Lib.hid (RPost.refl HR.out)
      clear e0
      go_enter Try.func51, Try.ntmps51
      go_wp2_with fail
      go_ret
      exact ⟨rfl, HZ.out⟩

set_option maxRecDepth 100000 in
theorem rfind_any (w : World) (base : Nat) (m : RM) (h : RIn w base m) (key : Bs) (hl : m.fs.length ≤ 1000) :
    Calls Try.prog 50 #[.pointer (some ⟨m.g, 0, none⟩), .string (bstr key)] w fun e w' =>
      (if m.down then e = .returned (.tuple #[.int .i64 (-1), .int .i64 3]) else (pfind m.pfs key = none ∧ e = .returned (.tuple #[.int .i64 (-1), .int .i64 60])) ∨ ∃ (j : Nat) (f : RF), m.fs[j]? = some f ∧ f.pf.name = key ∧ pfind m.pfs key = some f.pf ∧ e = .returned (.tuple #[.int .i64 j, .int .i64 0])) ∧ w = w' := by
  obtain ⟨_, _, _, c3⟩ := h.cell
  have HAT := Lib.hid (rat_any w base m h key hl)
  have hgl := h.bk.lt
  clear h
  cases hd : m.down
  · rw [hd] at c3
    go_enter Try.func50, Try.ntmps50
    go_wp2_with fail
    refine HAT.out.mono ?_
    clear HAT
    rintro e w1 ⟨⟨z, rfl, hz⟩, rfl⟩
    rcases hz with ⟨rfl, hn⟩ | ⟨j, f, rfl, hj, hk, hf⟩
    · have HN := Lib.hid hn
      clear hn
      go_wp2_with fail
      go_ret2
      exact ⟨.inl ⟨HN.out, rfl⟩, rfl⟩
    · have HZ : Hid (∃ (j' : Nat) (f : RF), m.fs[j']? = some f ∧ f.pf.name = key ∧ pfind m.pfs key = some f.pf ∧ j' = j) := by
        have hj2 : (m.fs.map RF.pf)[j]? = some f := hj
        rw [List.getElem?_map] at hj2
        cases hg : m.fs[j]? with
        | none => rw [hg] at hj2; cases hj2
        | some g =>
          rw [hg] at hj2
          injection hj2 with hj2
          exact ⟨j, g, hg, by rw [hj2]; exact hk, by rw [hj2]; exact hf, rfl⟩
      have hjl : j < m.fs.length := by have := (List.getElem?_eq_some_iff.1 hj).1; rwa [List.length_map] at this
      clear hj hk hf
      go_wp2_with fail
      go_ret2
      obtain ⟨j', f', h1, h2, h3, rfl⟩ := HZ.out
      exact ⟨.inr ⟨j', f', h1, h2, h3, rfl⟩, rfl⟩
  · rw [hd] at c3
    clear HAT
    go_enter Try.func50, Try.ntmps50
    go_wp2_with fail
    go_ret2
    exact ⟨rfl, rfl⟩

set_option maxRecDepth 100000 in
theorem rlimit_any (w : World) (base : Nat) (m : RM) (h : RIn w base m) (z : Int) :
    Calls Try.prog 37 #[.pointer (some ⟨m.g, 0, none⟩), .int .i64 z] w fun e w' => e = .returned (.tuple #[]) ∧ RPost w w' base m { m with left := if z < 0 then -1 else z } := by
  have HR := Lib.hid h
  have hgl := h.bk.lt
  have hz2 := h.bk.free 2
  have hfz2 := (h.bk.put 2 (.int .i64 z)).free 2
  obtain ⟨_, _, c2, _⟩ := h.cell
  have c2' : (w.setCell ⟨m.g, 2, none⟩ (.int .i64 z)).cell? ⟨m.g, 2, none⟩ = some (.int .i64 z) := (h.bk.put 2 (.int .i64 z)).cell 2
  clear h
  by_cases hz : z < 0
  · have HP := (HR.out.bk.put 2 (.int .i64 z)).put 2 (.int .i64 (-1))
    have HF := Lib.hid (((Fr.refl (fun k => k = m.g) w).setCell (p := ⟨m.g, 2, none⟩) (fun _ => rfl) (.int .i64 z)).setCell (p := ⟨m.g, 2, none⟩) (fun _ => rfl) (.int .i64 (-1)))
    have HZ := Lib.hid (HR.out.box HF.out (m' := { m with left := -1 }) HP rfl rfl rfl rfl)
    rw [if_pos hz]
    clear HP HF
    go_enter Try.func37, Try.ntmps37
    go_wp2_with fail
    go_end0
    exact ⟨rfl, HZ.out⟩
  · have HP := HR.out.bk.put 2 (.int .i64 z)
    have HF := Lib.hid ((Fr.refl (fun k => k = m.g) w).setCell (p := ⟨m.g, 2, none⟩) (fun _ => rfl) (.int .i64 z))
    have HZ := Lib.hid (HR.out.box HF.out (m' := { m with left := z }) HP rfl rfl rfl rfl)
    rw [if_neg hz]
    clear HP HF
    go_enter Try.func37, Try.ntmps37
    go_wp2_with fail
    go_end0
    exact ⟨rfl, HZ.out⟩

def rnew (g room : Nat) : RM := ⟨g, room, -1, false, none, 0, []⟩
theorem RIn.new {w w' : World} {g room : Nat} (hb : Bk w' g 61 (rnew g room).cells) (hg : w.heap.size ≤ g) : RIn w' w.heap.size (rnew g room) :=
  ⟨hb, hg, World.ownsRow_nil _ _ _ _, fun _ h => by cases h⟩
set_option maxRecDepth 100000 in
theorem rnew_any (w : World) (room : Nat) :
    Calls Try.prog 13 #[.int .i64 room] w fun e w' => e = .returned (.pointer (some ⟨w.heap.size, 0, none⟩)) ∧ RIn w' w.heap.size (rnew w.heap.size room) ∧ Fr NoBlk w w' := by
  have HZ : Hid (RIn (w.alloc (.cells (rnew w.heap.size room).cells 61)) w.heap.size (rnew w.heap.size room)) := RIn.new (Bk.new _ _ _) (Nat.le_refl _)
  have HF : Hid (Fr NoBlk w (w.alloc (.cells (rnew w.heap.size room).cells 61))) := (Fr.refl _ _).alloc _
  go_enter Try.func13, Try.ntmps13
  go_wp2_with fail
  go_ret
  exact ⟨rfl, HZ.out, HF.out⟩
end Go.Proofs.Ytnmemdhajjibgaa
