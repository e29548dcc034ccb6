/- Words for links: bytes copied, rows of the call's own, packets and data as the world holds them. No condition but lengths. -/
import Derived.Test.YtchlafhmoncldaaChecked
import Derived.Test.YtchlafhmoncldaaMem
import Derived.Test.YtchlafhmoncldaaKg
import Derived.BigQuiet
import Derived.Deep.QuietTactic
import Derived.RegionTactic
import Derived.Lib.SmallJoins
import Derived.Deep.RegionHeld3
import Derived.Deep.RegionWith
import Derived.Deep.CutRange
import Derived.Deep.Cut
import Derived.Deep.DeepCutAuto
import Derived.IntWalk
import GoSem.Op.String
namespace Go.Proofs.Ytchlafhmoncldaa
open Go.RowKit Go.Maps Go.ChangeMaps Go.MapKept Go.WideShapes

abbrev Bs := List UInt8
def bstr (l : Bs) : ByteArray := ⟨l.toArray⟩
def st (l : Bs) : Value := .string (bstr l)
theorem bstr_toList (l : Bs) : (bstr l).toList = l := by
  rw [ByteArray.toList_eq]
  simp [bstr]
theorem bstr_size (l : Bs) : (bstr l).size = l.length := by simp [bstr, ByteArray.size]
theorem bstr_eta (s : ByteArray) : bstr s.data.toList = s := by cases s; simp [bstr]
theorem size_of (s : ByteArray) : s.data.toList.length = s.size := by rw [Array.length_toList]; rfl

section
variable {α : Type} (f : α → List Value) (k : Nat) (hf : ∀ x, (f x).length = k)
include hf
theorem cat_len (xs : List α) : (xs.flatMap f).length = xs.length * k := by
  induction xs with
  | nil => simp
  | cons x t ih => rw [List.flatMap_cons, List.length_append, hf, ih, List.length_cons, Nat.succ_mul, Nat.add_comm]
theorem cat_get (xs : List α) (i : Nat) (x : α) (h : xs[i]? = some x) (j : Nat) (hj : j < k) : (xs.flatMap f)[i * k + j]? = (f x)[j]? := by
  induction xs generalizing i with
  | nil => cases h
  | cons y t ih =>
    rw [List.flatMap_cons]
    cases i with
    | zero =>
      injection h with h
      subst h
      rw [List.getElem?_append_left (by rw [hf]; omega), Nat.zero_mul, Nat.zero_add]
    | succ i =>
      rw [List.getElem?_append_right (by rw [hf, Nat.succ_mul]; omega), hf, show (i + 1) * k + j - k = i * k + j from by rw [Nat.succ_mul]; omega]
      exact ih i h
theorem Rd.cat {w : World} {A : Option Addr} {xs : List α} (h : Rd w A (xs.flatMap f)) (hk : 0 < k) {i : Nat} {x : α} (hx : xs[i]? = some x) :
    ∃ b o, A = some ⟨b, o, none⟩ ∧ ∀ j v, (f x)[j]? = some v → w.cell? ⟨b, o + i * k + j, none⟩ = some v := by
  have hi := (List.getElem?_eq_some_iff.1 hx).1
  obtain ⟨b, o, rfl, hc⟩ := h (by rw [cat_len f k hf]; exact Nat.mul_pos (by omega) hk)
  refine ⟨b, o, rfl, fun j v hv => ?_⟩
  have hj := (List.getElem?_eq_some_iff.1 hv).1
  rw [hf] at hj
  have := hc (i * k + j) v ((cat_get f k hf xs i x hx j hj).trans hv)
  rwa [← Nat.add_assoc] at this
end

theorem byteInfo : (Try.prog.info? 5).map (fun i => (i.zero, i.size, i.bytes)) = some (some (.int .u8 0), 1, 1) := by kernel_rfl
theorem sliceInfo : (Try.prog.info? 30).map (fun i => (i.zero, i.size, i.bytes)) = some (some (.slice none 0 0), 1, 24) := by kernel_rfl
theorem pkInfo : (Try.prog.info? 32).map (fun i => (i.zero, i.size, i.bytes)) = some (some (.agg #[.int .u64 0, .int .u64 0, .int .u64 0, .int .u64 0, .slice none 0 0]), 5, 56) := by kernel_rfl
theorem own_blk {w : World} {base : Nat} {e : TypeId} {size n : Nat} {v : Value} {xs : List Value} (h : w.ownsRow base e size v n xs) {k : Nat} (hk : v.ownBlock = some k) : base ≤ k ∧ k < w.heap.size := by
  rcases h.2 with ⟨h1, _⟩ | ⟨g, cap, cur, h1, h2, hh, _⟩
  · rw [h1] at hk; cases hk
  · rw [h1] at hk
    have : g = k := by simpa [Value.ownBlock] using hk
    subst this
    exact ⟨h2, (Array.getElem?_eq_some_iff.1 hh).1⟩

theorem own_cap {w : World} {base : Nat} {e : TypeId} {size n c : Nat} {A : Option Addr} {xs : List Value} (h : w.ownsRow base e size (.slice A n c) n xs) : c ≤ maxLen := by
  rcases h.2 with ⟨h1, _⟩ | ⟨g, cap, cur, h1, _, _, _, hcm, _⟩
  · injection h1 with _ _ h1
    subst h1
    exact Nat.zero_le _
  · injection h1 with _ _ h1
    subst h1
    exact hcm
theorem strBs (w : World) (A : Option Addr) (n c : Nat) (l : List UInt8) (hn : n = l.length) (hr : Rd w A (cb l)) :
    (convert 30 9 (.slice A n c)).run Try.prog w = .ok (.string (bstr l)) w :=
  run_str w _ _ 5 Try.underlying30 Try.underlying5 Try.underlying9 A c l n hn hr
theorem Bk.cast {w : World} {g : Nat} {T : TypeId} {cs cs' : Array Value} (h : Bk w g T cs) (e : cs = cs') : Bk w g T cs' := e ▸ h
theorem eqnil (W : World) (A : Option Addr) (n c : Nat) : (binOp .eql 30 (.slice A n c) (.slice none 0 0)).run Try.prog W = .ok (.bool A.isNone) W :=
  Lib.run_eql_slice_nil W _ _ A n c 0 0 Try.underlying30

/-- what a call hands back that lies in new memory. -/
structure New (w w' : World) (v : Value) (l : List UInt8) : Prop where
  own : w'.ownsRow w.heap.size 5 1 v l.length (cb l)
  fr : Fr NoBlk w w'

set_option maxRecDepth 100000 in
set_option maxHeartbeats 400000 in
theorem clone_any (w : World) (A : Option Addr) (n c : Nat) (l : List UInt8) (hn : n = l.length) (hr : Rd w A (cb l)) (hA : A = none → c = 0) (hl : l.length ≤ 1000000000) :
    Calls Try.prog 25 #[.slice A n c] w fun e w' => ∃ v', e = .returned v' ∧ New w w' v' l := by
  obtain ⟨i0, hi, hz0, hz1, hz2⟩ := info_parts byteInfo
  subst hn
  rcases A with _ | ad
  · have hl0 : l = [] := by
      rcases Nat.eq_zero_or_pos l.length with h0 | h0
      · exact List.eq_nil_of_length_eq_zero h0
      · obtain ⟨_, _, h, _⟩ := hr (by rw [cb_length]; exact h0)
        cases h
    subst hl0
    obtain rfl := hA rfl
    have q := eqnil w none 0 0
    clear hr hA hl
    simp only [List.length_nil]
    go_enter Try.func25, Try.ntmps25
    go_wp2
    go_ret
    exact ⟨_, rfl, World.ownsRow_nil _ _ _ _, Fr.refl _ _⟩
  · clear hA
    have HR := Lib.hid hr
    have HS := Lib.hid hl
    have q := eqnil w (some ad) l.length c
    clear hr hl
    go_enter Try.func25, Try.ntmps25
    go_wp2_with (at_builtin; refine wpList_app rfl _ _ 30 rfl w.heap.size 5 i0 (.int .u8 0) 1 Try.underlying30 hi hz0 hz1 hz2 rfl _ 0 [] rfl (World.ownsRow_made w #[] 0 (Nat.le_refl _) (by decide) rfl) (some ad) c l.length (cb l) rfl (cb_length l) ?c1 (cb_one _) ?c2 ?c3 ?c4 ?c5 ?_)
    case c1 => exact HR.out.alloc _
    case c2 => intro h; cases h
    case c3 => have := HS.out; unfold maxLen; omega
    case c4 => have := HS.out; omega
    case c5 => simp
    intro v' w1 hown' hgrow _ hblk
    have HX : Hid (New w w1 v' l) := ⟨by simpa using hown', ((Fr.refl _ _).alloc _).grown hgrow (fun k hk hlt => by simp [Value.ownBlock] at hk; omega)⟩
    clear hown' hgrow hblk
    go_wp2
    go_ret
    exact ⟨v', rfl, HX.out⟩
theorem step_appO {P : Program} {w : World} {ops : Array Oper} {o : Oper} {a : Act} {K : Act → World → Prop} {Q : Exit → Act → World → Prop} {E : Prop} (hgd : o.guard = none) (s x : Operand) (t : TypeId)
    (ho : o.op = .call { callee := .builtin .append, args := #[s, x], argTypes := #[t, t] })
    (base : Nat) (e : TypeId) (i : TypeInfo) (z : Value) (size bytes : Nat) (ht : P.underlying t = some (.slice e)) (hi : P.info? e = some i) (hz : i.zero = some z)
    (hsize : i.size = size) (hby : i.bytes = bytes) (hzs : z.cells.size = size) (hpos : 0 < size)
    (v : Value) (n : Nat) (xs : List Value) (hs : a.eval s = v) (hown : w.ownsRow base e size v n xs)
    (ad : Addr) (c m : Nat) (news : List Value) (hx : a.eval x = .slice (some ad) m c) (hm : news.length = m * size) (hr : Rd w (some ad) news) (h1 : ∀ u ∈ news, u.oneCell' = true)
    (h63 : n + m ≤ maxLen) (hbytes : (n + m) * bytes ≤ 140737488355328) (hbase : base ≤ w.heap.size)
    (h : ∀ v' w', w'.ownsRow base e size v' (n + m) (xs ++ news) → w.grownBy w' v.ownBlock → (v'.ownBlock = v.ownBlock ∨ v'.ownBlock = some w.heap.size) → K (a.put o.dst v') w') :
    if Region.wanted o (yielded ops a.tmps) = true then Oper.wp P o a w K Q else E := by
  have hw : Region.wanted o (yielded ops a.tmps) = true := by simp [Region.wanted, hgd]
  rw [if_pos hw]
  obtain ⟨v', w', hrun, h2, h3, _, h5⟩ := run_append_own_at (P := P) w base t o.type e i z size bytes ht hi hz hsize hby hzs hpos v n xs hown ad m c news hm
    (fun j u hu => by
      obtain ⟨b, o, e', hc⟩ := hr (by have := (List.getElem?_eq_some_iff.1 hu).1; omega)
      injection e' with e'
      subst e'
      have := hc j u hu
      unfold Addr.add
      split
      · subst j; simpa using this
      · exact this) h1 h63 hbytes hbase
  unfold Oper.wp execOp
  simp only [ho, resolve, invoke, builtin, Sem.run_bind, Sem.run_pure, Result.andThen_ok, List.map_toArray, List.map_cons, List.map_nil, hs, hx, hrun]
  exact h v' w' h2 h3 h5

theorem Rd.of_ownN {w : World} {A : Option Addr} {xs : List Value} {base size : Nat} {e : TypeId} {n c : Nat} (h : w.ownsRow base e size (.slice A n c) n xs) : Rd w A xs := by
  intro hx
  rcases h.2 with ⟨hv, hn⟩ | ⟨g, cap, cur, hv, _, hh, hnc, _, hcs, htake⟩
  · have := h.1
    rw [hn] at this
    omega
  · have hA : A = some ⟨g, 0, none⟩ := by injection hv
    refine ⟨g, 0, hA, fun j v hj => ?_⟩
    rw [cell_of_row w g _ cur e (0, 0) hh, ← hj, ← htake, List.getElem?_take]
    have hl := (List.getElem?_eq_some_iff.1 hj).1
    rw [if_pos (by have := h.1; omega)]
    simp
theorem wpAnyH_more {P : Program} {md : Region.Mode} {ops : Array Oper} {Q : Exit → Act → World → Prop} {S S' : World → Prop} (hS : ∀ w, S' w → S w) :
    ∀ (fuel : Nat) (listed : Array Bool) (a : Act) (w : World), wpAnyH P md ops Q S' fuel listed a w → wpAnyH P md ops Q S fuel listed a w
  | 0, _, _, _, h => h
  | fuel + 1, _, _, _, h => ⟨h.1, fun i hi => wpOp_mono (fun a' w' h' => ⟨hS w' h'.1, wpAnyH_more hS fuel _ a' w' h'.2⟩) (h.2 i hi)⟩
theorem own_ne {w : World} {base base' : Nat} {e e' : TypeId} {size size' n n' : Nat} {v v' : Value} {xs xs' : List Value} (h : w.ownsRow base e size v n xs) (h' : w.ownsRow base' e' size' v' n' xs') (hne : e ≠ e') {k : Nat} (hk : v'.ownBlock = some k) : v.ownBlock ≠ some k := by
  rcases h'.2 with ⟨rfl, _⟩ | ⟨g, cap, cur, rfl, _, hh, _⟩
  · simp [Value.ownBlock] at hk
  · have e1 : g = k := by simpa [Value.ownBlock] using hk
    subst e1
    exact own_apart h (show Bk w g e' cur from hh) hne

theorem own_set {w : World} {base : Nat} {e T : TypeId} {size n gt i : Nat} {v u : Value} {xs : List Value} {cs : Array Value} (h : w.ownsRow base e size v n xs) (hb : Bk w gt T cs) (hne : e ≠ T) : (w.setCell ⟨gt, i, none⟩ u).ownsRow base e size v n xs :=
  own_fr h ((Fr.refl (fun k => k = gt) w).setCell (p := ⟨gt, i, none⟩) (fun _ => rfl) u) fun _ hk e => own_apart h hb hne (e ▸ hk)
theorem own_lens {w : World} {base : Nat} {e : TypeId} {size n c : Nat} {A : Option Addr} {xs : List Value} (h : w.ownsRow base e size (.slice A n c) n xs) : n ≤ c ∧ c ≤ maxLen ∧ (A = none → c = 0) := by
  obtain ⟨A', c', e1, h1, h2⟩ := own_form h
  injection e1 with e1 _ e3
  subst e1 e3
  exact ⟨h1, own_cap h, h2⟩
theorem own_new {w : World} {h B t : Nat} (hh : h = w.heap.size) (hB : B ≤ w.heap.size) : (w.alloc (.cells #[] t)).ownsRow B t 1 (.slice (some ⟨h, 0, none⟩) 0 0) 0 [] := by
  subst hh
  exact own_base (World.ownsRow_made w #[] 0 (Nat.le_refl _) (by decide) rfl) hB
theorem Bk.new' (w : World) (t : TypeId) (cs : Array Value) {g : Nat} (hg : g = w.heap.size) : Bk (w.alloc (.cells cs t)) g t cs := hg ▸ Bk.new w t cs

theorem Kg.clear_ {κ : Type} {P : Program} {k t e : TypeId} {w : World} {b s : Nat} {f : κ → Option Value} {lit : κ → Lit} {ok : κ → Prop} (h : Kg P k lit ok w b s f) (ht : P.underlying t = some (.map k e)) (ty : TypeId) :
    ∃ w', (Builtin.clear_ #[t] ty #[.map (some b)]).run P w = .ok (.tuple #[]) w' ∧ Kg P k lit ok w' b 0 (fun _ => none) ∧ Fr (fun j => j = b) w w' := by
  obtain ⟨D, ⟨es, clock, hb, F, hs, hD⟩, _⟩ := h
  refine ⟨setBlock w b (.map #[] clock), ?_, ⟨.map [], ⟨#[], clock, heap_setBlock_same hb _, ⟨by simp, stamped_empty _, by simp⟩, Nat.le_refl _, rfl⟩, rfl, fun _ _ => ⟨rfl, fun _ => rfl⟩⟩, ⟨rfl, rfl, rfl, by simp [setBlock], fun i _ hi => heap_setBlock_other hb _ hi⟩⟩
  simp [Builtin.clear_, run_underlying ht, MapKept.run_getObj_map hb, MapKept.run_setObj_map _ hb, Result.andThen, setBlock]

/-- a row of bytes: where it lies, its room, what it holds. -/
abbrev Prt := Option Addr × Nat × List UInt8
def sl (p : Prt) : Value := .slice p.1 p.2.2.length p.2.1
/-- keys that are numbers. -/
def u64v (n : Nat) : Value := .int .u64 (n : Int)
def u64l (n : Nat) : Lit := .int .u64 (n : Int)
def u64ok (n : Nat) : Prop := n < 2 ^ 64

/-- a link's side, as the program holds it: the data sent, those that came early. -/
structure Lk where
  epoch : Nat
  peer : Nat
  base : Nat
  expects : Nat
  sa : Option Addr
  sc : Nat
  sent : List Prt
  gm : Nat
  n : Nat
  early : Nat → Option Prt
def lka (L : Lk) : Array Value := #[.int .u64 (L.epoch : Int), .int .u64 (L.peer : Int), .int .u64 (L.base : Int), .slice L.sa L.sent.length L.sc, .int .u64 (L.expects : Int), .map (some L.gm)]
/-- a row of bytes of one's own, in blocks of O. -/
def PartO (O : Nat → Prop) (W : World) (p : Prt) : Prop := W.ownsRow 0 5 1 (sl p) p.2.2.length (cb p.2.2) ∧ ∀ k, (sl p).ownBlock = some k → O k
/-- it lies behind g, in blocks of O. -/
structure LkIn (O : Nat → Prop) (W : World) (g : Nat) (L : Lk) : Prop where
  bk : Bk W g 70 (lka L)
  own : W.ownsRow 0 30 1 (.slice L.sa L.sent.length L.sc) L.sent.length (L.sent.map sl)
  map : Kg Try.prog 22 u64l u64ok W L.gm L.n (fun k => (L.early k).map sl)
  parts : ∀ p ∈ L.sent, PartO O W p
  eparts : ∀ k p, L.early k = some p → PartO O W p
  og : O g
  om : O L.gm
  os : ∀ b, (Value.slice L.sa L.sent.length L.sc).ownBlock = some b → O b
  ol : ∀ k, O k → k < W.heap.size
  nums : L.epoch < 2 ^ 64 ∧ L.peer < 2 ^ 64 ∧ L.base < 2 ^ 64 ∧ L.expects < 2 ^ 64
  few : L.sent.length ≤ 16
theorem PartO.fr {O C : Nat → Prop} {W W' : World} {p : Prt} (h : PartO O W p) (hf : Fr C W W') (hn : ∀ k, O k → ¬ C k) : PartO O W' p := ⟨own_fr h.1 hf (fun k hk => hn k (h.2 k hk)), h.2⟩
theorem PartO.mono {O O' : Nat → Prop} {W : World} {p : Prt} (h : PartO O W p) (hO : ∀ k, O k → O' k) : PartO O' W p := ⟨h.1, fun k hk => hO k (h.2 k hk)⟩
theorem LkIn.fr {O C : Nat → Prop} {W W' : World} {g : Nat} {L : Lk} (h : LkIn O W g L) (hf : Fr C W W') (hn : ∀ k, O k → ¬ C k) : LkIn O W' g L :=
  ⟨h.bk.fr hf (hn _ h.og), own_fr h.own hf (fun k hk => hn k (h.os k hk)), h.map.fr hf (hn _ h.om), fun p hp => (h.parts p hp).fr hf hn, fun k p hp => (h.eparts k p hp).fr hf hn, h.og, h.om, h.os, fun k hk => Nat.lt_of_lt_of_le (h.ol k hk) hf.size, h.nums, h.few⟩
theorem LkIn.nofr {O : Nat → Prop} {W W' : World} {g : Nat} {L : Lk} (h : LkIn O W g L) (hf : Fr NoBlk W W') : LkIn O W' g L := h.fr hf fun _ _ h => h
theorem LkIn.cells {O : Nat → Prop} {W : World} {g : Nat} {L : Lk} (h : LkIn O W g L) :
    W.cell? ⟨g, 0, none⟩ = some (.int .u64 (L.epoch : Int)) ∧ W.cell? ⟨g, 1, none⟩ = some (.int .u64 (L.peer : Int)) ∧ W.cell? ⟨g, 2, none⟩ = some (.int .u64 (L.base : Int)) ∧ W.cell? ⟨g, 3, none⟩ = some (.slice L.sa L.sent.length L.sc) ∧ W.cell? ⟨g, 4, none⟩ = some (.int .u64 (L.expects : Int)) ∧ W.cell? ⟨g, 5, none⟩ = some (.map (some L.gm)) :=
  ⟨h.bk.cell 0, h.bk.cell 1, h.bk.cell 2, h.bk.cell 3, h.bk.cell 4, h.bk.cell 5⟩
/-- a block of bytes. -/
def Byt (W : World) (k : Nat) : Prop := ∃ cs fr, W.heap[k]? = some (.cells cs 5 fr)
/-- its blocks that hold no bytes: what its calls may turn. -/
def St (O : Nat → Prop) (W : World) : Nat → Prop := fun k => O k ∧ ¬ Byt W k
theorem Byt.fr {C : Nat → Prop} {W W' : World} {k : Nat} (h : Byt W k) (hf : Fr C W W') (hn : ¬ C k) : Byt W' k := by
  obtain ⟨cs, fr, e⟩ := h
  exact ⟨cs, fr, (hf.block k (Array.getElem?_eq_some_iff.1 e).1 hn).trans e⟩
theorem Byt.no {W : World} {g : Nat} {t : TypeId} {cs : Array Value} (h : Bk W g t cs) (ht : t ≠ 5) : ¬ Byt W g := fun ⟨_, _, e⟩ => by
  unfold Bk at h
  rw [h] at e
  injection e with e
  injection e with _ e
  exact ht e
theorem Byt.noOwn {W : World} {base size n k : Nat} {e : TypeId} {v : Value} {xs : List Value} (h : W.ownsRow base e size v n xs) (hk : v.ownBlock = some k) (ht : e ≠ 5) : ¬ Byt W k := by
  rcases h.2 with ⟨rfl, _⟩ | ⟨g, cap, cur, rfl, _, hh, _⟩
  · cases hk
  · have e1 : g = k := by simpa [Value.ownBlock] using hk
    subst e1
    exact Byt.no (show Bk W g e cur from hh) ht
theorem Byt.own {W : World} {base size n k : Nat} {v : Value} {xs : List Value} (h : W.ownsRow base 5 size v n xs) (hk : v.ownBlock = some k) : Byt W k := by
  rcases h.2 with ⟨rfl, _⟩ | ⟨g, cap, cur, rfl, _, hh, _⟩
  · cases hk
  · have e1 : g = k := by simpa [Value.ownBlock] using hk
    subst e1
    exact ⟨_, _, hh⟩
theorem LkIn.stg {O : Nat → Prop} {W : World} {g : Nat} {L : Lk} (h : LkIn O W g L) : St O W g := ⟨h.og, Byt.no h.bk (by decide)⟩
theorem LkIn.stm {O : Nat → Prop} {W : World} {g : Nat} {L : Lk} (h : LkIn O W g L) : St O W L.gm := ⟨h.om, fun ⟨_, _, e⟩ => by
  obtain ⟨es, cl, hh⟩ := h.map.blk
  rw [hh] at e
  cases e⟩
theorem LkIn.sts {O : Nat → Prop} {W : World} {g : Nat} {L : Lk} (h : LkIn O W g L) {k : Nat} (hk : (Value.slice L.sa L.sent.length L.sc).ownBlock = some k) : St O W k := ⟨h.os k hk, Byt.noOwn h.own hk (by decide)⟩
theorem Fr.st {O : Nat → Prop} {W W' : World} (h : Fr (St O W) W W') : Fr O W W' := h.mono fun _ _ e => e.1
theorem Fr.stS {O O1 : Nat → Prop} {W W1 W2 : World} (h : Fr (St O W) W W1) (k : Fr (St O1 W1) W1 W2) (hO : ∀ j, j < W.heap.size → O1 j → O j) : Fr (St O W) W W2 :=
  h.step k fun j hj e => ⟨hO j hj e.1, fun hb => e.2 (hb.fr h fun e2 => e2.2 hb)⟩
theorem Fr.stT {O : Nat → Prop} {W W1 W2 : World} (h : Fr (St O W) W W1) (k : Fr (St O W1) W1 W2) : Fr (St O W) W W2 := h.stS k fun _ _ e => e
/-- bytes that nothing turned. -/
theorem own_st {O : Nat → Prop} {W W' : World} {base n : Nat} {v : Value} {xs : List Value} (h : W.ownsRow base 5 1 v n xs) (hf : Fr (St O W) W W') : W'.ownsRow base 5 1 v n xs := own_fr h hf fun _ hk e => e.2 (Byt.own h hk)
/-- what belongs to it next: its blocks, and new ones. -/
def Grow (O O' : Nat → Prop) (W : World) : Prop := (∀ k, O k → O' k) ∧ ∀ k, O' k → O k ∨ W.heap.size ≤ k

/-- a packet. -/
structure Pk where
  ep : Nat
  pe : Nat
  sq : Nat
  ak : Nat
  d : Prt
def pkc (p : Pk) : List Value := [.int .u64 (p.ep : Int), .int .u64 (p.pe : Int), .int .u64 (p.sq : Int), .int .u64 (p.ak : Int), sl p.d]
def pka (p : Pk) : Array Value := #[.int .u64 (p.ep : Int), .int .u64 (p.pe : Int), .int .u64 (p.sq : Int), .int .u64 (p.ak : Int), .slice p.d.1 p.d.2.2.length p.d.2.1]
def pksc (xs : List Pk) : List Value := xs.flatMap pkc
theorem pkc_len (p : Pk) : (pkc p).length = 5 := rfl
theorem pksc_len (xs : List Pk) : (pksc xs).length = xs.length * 5 := cat_len pkc 5 pkc_len xs
theorem pksc_append (xs ys : List Pk) : pksc (xs ++ ys) = pksc xs ++ pksc ys := List.flatMap_append ..

set_option maxRecDepth 100000 in
theorem new_any (W : World) (epoch : Nat) (he : epoch < 2 ^ 64) :
    Calls Try.prog 10 #[.int .u64 (epoch : Int)] W fun e W' => ∃ g gm, e = .returned (.pointer (some ⟨g, 0, none⟩)) ∧ LkIn (fun k => k = g ∨ k = gm) W' g ⟨epoch, 0, 1, 1, none, 0, [], gm, 0, fun _ => none⟩ ∧ Fr NoBlk W W' ∧ W.heap.size ≤ g ∧ W.heap.size ≤ gm := by
  have hmm := @run_makeMap Try.prog
  have HF : Hid (Fr NoBlk W ((W.alloc (.map #[] 0)).alloc (.cells #[.int .u64 (epoch : Int), .int .u64 0, .int .u64 1, .slice none 0 0, .int .u64 1, .map (some W.heap.size)] 70))) := ((Fr.refl _ _).alloc _).alloc _
  have HB : Hid (LkIn (fun k => k = W.heap.size + 1 ∨ k = W.heap.size) ((W.alloc (.map #[] 0)).alloc (.cells #[.int .u64 (epoch : Int), .int .u64 0, .int .u64 1, .slice none 0 0, .int .u64 1, .map (some W.heap.size)] 70)) (W.heap.size + 1) ⟨epoch, 0, 1, 1, none, 0, [], W.heap.size, 0, fun _ => none⟩) :=
    ⟨Bk.new' _ _ _ (by simp), World.ownsRow_nil _ _ _ _, (Kg.new W).fr ((Fr.refl NoBlk _).alloc _) (fun h => h), (fun _ h => by cases h), (fun _ _ h => by cases h), .inl rfl, .inr rfl, (fun _ h => by cases h), (fun k hk => by rcases hk with rfl | rfl <;> simp <;> omega), ⟨he, by show (0 : Nat) < _; omega, by show (1 : Nat) < _; omega, by show (1 : Nat) < _; omega⟩, Nat.zero_le _⟩
  clear he
  go_enter Try.func10, Try.ntmps10
  go_wp2_with fail
  go_ret
  exact ⟨_, _, rfl, HB.out, HF.out, by omega, Nat.le_refl _⟩

set_option maxRecDepth 100000 in
theorem open_any (W : World) (O : Nat → Prop) (g : Nat) (L : Lk) (h : LkIn O W g L) : Calls Try.prog 20 #[.pointer (some ⟨g, 0, none⟩)] W fun e W' => e = .returned (.int .i64 (L.sent.length : Int)) ∧ W = W' := by
  obtain ⟨c0, c1, c2, c3, c4, c5⟩ := h.cells
  clear h
  go_enter Try.func20, Try.ntmps20
  go_wp2_with fail
  go_ret
  exact ⟨rfl, rfl⟩
set_option maxRecDepth 100000 in
theorem peer_any (W : World) (O : Nat → Prop) (g : Nat) (L : Lk) (h : LkIn O W g L) : Calls Try.prog 21 #[.pointer (some ⟨g, 0, none⟩)] W fun e W' => e = .returned (.int .u64 (L.peer : Int)) ∧ W = W' := by
  obtain ⟨c0, c1, c2, c3, c4, c5⟩ := h.cells
  clear h
  go_enter Try.func21, Try.ntmps21
  go_wp2_with fail
  go_ret
  exact ⟨rfl, rfl⟩
end Go.Proofs.Ytchlafhmoncldaa
