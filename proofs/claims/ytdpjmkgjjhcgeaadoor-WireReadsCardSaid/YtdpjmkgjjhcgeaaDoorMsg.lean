/- Messages as the world holds them, when they are right, and their bytes. No condition but lengths. -/
import Derived.Test.YtdpjmkgjjhcgeaaDoorNum
import Derived.Test.YtdpjmkgjjhcgeaaDoorSum
import GoSem.Op.String
import Derived.BigQuiet
import Derived.Deep.QuietTactic
import Derived.RegionTactic
import Derived.Lib.SmallJoins
namespace Go.Proofs.YtdpjmkgjjhcgeaaDoor
open Go.RowKit

abbrev Bs := List UInt8
def bstr (l : Bs) : ByteArray := ⟨l.toArray⟩
def st (l : Bs) : Value := .string (bstr l)
theorem bstr_toList (l : Bs) : (bstr l).toList = l := by
  rw [ByteArray.toList_eq]
  simp [bstr]
theorem bstr_size (l : Bs) : (bstr l).size = l.length := by simp [bstr, ByteArray.size]
theorem bstr_eta (s : ByteArray) : bstr s.data.toList = s := by cases s; simp [bstr]
theorem size_of (s : ByteArray) : s.data.toList.length = s.size := by rw [Array.length_toList]; rfl

section
variable {α : Type} (f : α → List Value) (k : Nat) (hf : ∀ x, (f x).length = k)
include hf
theorem cat_len (xs : List α) : (xs.flatMap f).length = xs.length * k := by
  induction xs with
  | nil => simp
  | cons x t ih => rw [List.flatMap_cons, List.length_append, hf, ih, List.length_cons, Nat.succ_mul, Nat.add_comm]
theorem cat_get (xs : List α) (i : Nat) (x : α) (h : xs[i]? = some x) (j : Nat) (hj : j < k) : (xs.flatMap f)[i * k + j]? = (f x)[j]? := by
  induction xs generalizing i with
  | nil => cases h
  | cons y t ih =>
    rw [List.flatMap_cons]
    cases i with
    | zero =>
      injection h with h
      subst h
      rw [List.getElem?_append_left (by rw [hf]; omega), Nat.zero_mul, Nat.zero_add]
    | succ i =>
      rw [List.getElem?_append_right (by rw [hf, Nat.succ_mul]; omega), hf, show (i + 1) * k + j - k = i * k + j from by rw [Nat.succ_mul]; omega]
      exact ih i h
theorem Rd.cat {w : World} {A : Option Addr} {xs : List α} (h : Rd w A (xs.flatMap f)) (hk : 0 < k) {i : Nat} {x : α} (hx : xs[i]? = some x) :
    ∃ b o, A = some ⟨b, o, none⟩ ∧ ∀ j v, (f x)[j]? = some v → w.cell? ⟨b, o + i * k + j, none⟩ = some v := by
  have hi := (List.getElem?_eq_some_iff.1 hx).1
  obtain ⟨b, o, rfl, hc⟩ := h (by rw [cat_len f k hf]; exact Nat.mul_pos (by omega) hk)
  refine ⟨b, o, rfl, fun j v hv => ?_⟩
  have hj := (List.getElem?_eq_some_iff.1 hv).1
  rw [hf] at hj
  have := hc (i * k + j) v ((cat_get f k hf xs i x hx j hj).trans hv)
  rwa [← Nat.add_assoc] at this
end

def nB (n : Int) : Prop := -9223372036854775808 ≤ n ∧ n ≤ 9223372036854775807
def two64 : Nat := 18446744073709551616

/-- a vote of texts. -/
structure Vt where
  slot : Int
  ballot : Nat
  value : Bs
def vtc (m : Vt) : List Value := [.int .i64 m.slot, .int .u64 (m.ballot : Int), st m.value]
def vtsc (xs : List Vt) : List Value := xs.flatMap vtc
theorem vtc_len (m : Vt) : (vtc m).length = 3 := rfl
theorem vtsc_len (xs : List Vt) : (vtsc xs).length = xs.length * 3 := cat_len vtc 3 vtc_len xs
theorem vtsc_append (xs ys : List Vt) : vtsc (xs ++ ys) = vtsc xs ++ vtsc ys := List.flatMap_append ..
theorem Rd.vote {w : World} {A : Option Addr} {xs : List Vt} (h : Rd w A (vtsc xs)) {i : Nat} {m : Vt} (hm : xs[i]? = some m) :
    ∃ b o, A = some ⟨b, o, none⟩ ∧ w.cell? ⟨b, o + i * 3, none⟩ = some (.int .i64 m.slot) ∧ w.cell? ⟨b, o + i * 3 + 1, none⟩ = some (.int .u64 (m.ballot : Int)) ∧ w.cell? ⟨b, o + i * 3 + 2, none⟩ = some (.string (bstr m.value)) := by
  obtain ⟨b, o, rfl, hc⟩ := Rd.cat vtc 3 vtc_len h (by omega) hm
  exact ⟨b, o, rfl, hc 0 _ rfl, hc 1 _ rfl, hc 2 _ rfl⟩

/-- a message by value. -/
structure Mg where
  kind : Int
  frm : Int
  dst : Int
  grp : Int
  slot : Int
  ballot : Nat
  value : Bs
  va : Option Addr
  vc : Nat
  votes : List Vt
def mga (m : Mg) : Array Value := #[.int .i64 m.kind, .int .i64 m.frm, .int .i64 m.dst, .int .i64 m.grp, .int .i64 m.slot, .int .u64 (m.ballot : Int), .string (bstr m.value), .slice m.va m.votes.length m.vc]
def mgv (m : Mg) : Value := .agg (mga m)
structure MgIn (w : World) (m : Mg) : Prop where
  votes : Rd w m.va (vtsc m.votes)
  vl : m.votes.length ≤ m.vc ∧ m.vc ≤ maxLen ∧ (m.va = none → m.vc = 0)
  vals : m.value.length ≤ maxLen ∧ ∀ v ∈ m.votes, v.value.length ≤ maxLen
  nums : m.ballot < two64 ∧ ∀ v ∈ m.votes, v.ballot < two64
  ints : nB m.kind ∧ nB m.frm ∧ nB m.dst ∧ nB m.grp ∧ nB m.slot ∧ ∀ v ∈ m.votes, nB v.slot
theorem MgIn.nofr {w w' : World} {m : Mg} (h : MgIn w m) (hf : Fr NoBlk w w') : MgIn w' m := ⟨h.votes.nofr hf, h.vl, h.vals, h.nums, h.ints⟩
theorem Bk.msg {w : World} {g : Nat} {T : TypeId} {m : Mg} (h : Bk w g T (mga m)) :
    w.cell? ⟨g, 0, none⟩ = some (.int .i64 m.kind) ∧ w.cell? ⟨g, 1, none⟩ = some (.int .i64 m.frm) ∧ w.cell? ⟨g, 2, none⟩ = some (.int .i64 m.dst) ∧ w.cell? ⟨g, 3, none⟩ = some (.int .i64 m.grp) ∧ w.cell? ⟨g, 4, none⟩ = some (.int .i64 m.slot) ∧
    w.cell? ⟨g, 5, none⟩ = some (.int .u64 (m.ballot : Int)) ∧ w.cell? ⟨g, 6, none⟩ = some (.string (bstr m.value)) ∧ w.cell? ⟨g, 7, none⟩ = some (.slice m.va m.votes.length m.vc) :=
  ⟨h.cell 0, h.cell 1, h.cell 2, h.cell 3, h.cell 4, h.cell 5, h.cell 6, h.cell 7⟩

theorem Bk.msg8 {w : World} {g : Nat} {T : TypeId} {v0 v1 v2 v3 v4 v5 v6 v7 : Value} (h : Bk w g T #[v0, v1, v2, v3, v4, v5, v6, v7]) :
    w.cell? ⟨g, 0, none⟩ = some v0 ∧ w.cell? ⟨g, 1, none⟩ = some v1 ∧ w.cell? ⟨g, 2, none⟩ = some v2 ∧ w.cell? ⟨g, 3, none⟩ = some v3 ∧ w.cell? ⟨g, 4, none⟩ = some v4 ∧ w.cell? ⟨g, 5, none⟩ = some v5 ∧ w.cell? ⟨g, 6, none⟩ = some v6 ∧ w.cell? ⟨g, 7, none⟩ = some v7 :=
  ⟨h.cell 0, h.cell 1, h.cell 2, h.cell 3, h.cell 4, h.cell 5, h.cell 6, h.cell 7⟩

/- when a message is right. -/
def inB (n lo hi : Int) : Bool := decide (lo ≤ n) && decide (n ≤ hi)
def rightN (m : Mg) : Bool := inB m.kind 1 9 && inB m.frm 0 8 && inB m.dst 0 8 && inB m.grp 0 3 && inB m.slot 0 64
def hasV (k : Int) : Bool := k == 3 || k == 6 || k == 8 || k == 9
def rightV (m : Mg) : Bool := if hasV m.kind then decide (m.value.length ≤ 4096) else m.value.isEmpty
def rises : Int → List Vt → Bool
  | _, [] => true
  | n, v :: t => inB v.slot n 63 && decide (v.value.length ≤ 4096) && rises (v.slot + 1) t
def rightVs (m : Mg) : Bool := if m.kind == 2 then rises 0 m.votes else m.votes.isEmpty
def rightM (m : Mg) : Bool := rightN m && rightV m && rightVs m
def codeR (b : Bool) : Int := if b then 0 else 1

theorem inB_iff {n lo hi : Int} : inB n lo hi = true ↔ lo ≤ n ∧ n ≤ hi := by simp [inB]
theorem rises_at : ∀ (xs : List Vt) (n : Int), 0 ≤ n → rises n xs = true → (xs = [] ∨ (xs.length : Int) + n ≤ 64) ∧ ∀ v ∈ xs, n ≤ v.slot ∧ v.slot ≤ 63 ∧ v.value.length ≤ 4096
  | [], n, _, _ => ⟨.inl rfl, fun _ h => by cases h⟩
  | v :: t, n, hn, h => by
    simp only [rises, Bool.and_eq_true, decide_eq_true_eq, inB_iff] at h
    obtain ⟨⟨⟨h1, h2⟩, h3⟩, h4⟩ := h
    obtain ⟨h5, h6⟩ := rises_at t (v.slot + 1) (by omega) h4
    refine ⟨.inr ?_, fun u hu => ?_⟩
    · rw [List.length_cons]
      rcases h5 with rfl | h5
      · simp; omega
      · omega
    · rcases List.mem_cons.1 hu with rfl | hu
      · exact ⟨by omega, by omega, h3⟩
      · have := h6 u hu
        exact ⟨by omega, this.2.1, this.2.2⟩
structure WMg (m : Mg) : Prop where
  kind : 1 ≤ m.kind ∧ m.kind ≤ 9
  frm : 0 ≤ m.frm ∧ m.frm ≤ 8
  dst : 0 ≤ m.dst ∧ m.dst ≤ 8
  grp : 0 ≤ m.grp ∧ m.grp ≤ 3
  slot : 0 ≤ m.slot ∧ m.slot ≤ 64
  value : m.value.length ≤ 4096
  few : m.votes.length ≤ 64
  votes : ∀ v ∈ m.votes, 0 ≤ v.slot ∧ v.slot ≤ 63 ∧ v.value.length ≤ 4096
theorem rightM_wmg {m : Mg} (h : rightM m = true) : WMg m := by
  unfold rightM rightN at h
  simp only [Bool.and_eq_true, inB_iff] at h
  obtain ⟨⟨⟨⟨⟨⟨h1, h2⟩, h3⟩, h4⟩, h5⟩, h6⟩, h7⟩ := h
  have hv : m.value.length ≤ 4096 := by
    unfold rightV at h6
    split at h6
    · simpa using h6
    · rw [List.isEmpty_iff] at h6; rw [h6]; simp
  have hw : m.votes.length ≤ 64 ∧ ∀ v ∈ m.votes, 0 ≤ v.slot ∧ v.slot ≤ 63 ∧ v.value.length ≤ 4096 := by
    unfold rightVs at h7
    split at h7
    · obtain ⟨k1, k2⟩ := rises_at m.votes 0 (by omega) h7
      refine ⟨?_, k2⟩
      rcases k1 with k1 | k1
      · rw [k1]; simp
      · omega
    · rw [List.isEmpty_iff] at h7
      rw [h7]
      exact ⟨by simp, fun _ h => by cases h⟩
  exact ⟨h1, h2, h3, h4, h5, hv, hw.1, hw.2⟩

/- a message's bytes. -/
def nums (ns : List Nat) : List UInt8 := ns.flatMap num
def textB (t : Bs) : List UInt8 := num t.length ++ t
def voteB (v : Vt) : List UInt8 := num v.slot.toNat ++ (num v.ballot ++ textB v.value)
def headB (m : Mg) : List UInt8 := nums [m.kind.toNat, m.frm.toNat, m.dst.toNat, m.grp.toNat, m.slot.toNat]
def bodyB (m : Mg) : List UInt8 := headB m ++ (num m.ballot ++ (textB m.value ++ (num m.votes.length ++ m.votes.flatMap voteB)))
def sumN (l : List UInt8) : Nat := (Crc.crc l).toNat
def msgB (m : Mg) : List UInt8 := bodyB m ++ num (sumN (bodyB m))
theorem sumN_lt (l : List UInt8) : sumN l < 2 ^ 32 := (Crc.crc l).isLt

theorem nums_snoc (ns : List Nat) (k n : Nat) (h : ns[k]? = some n) : nums (ns.take (k + 1)) = nums (ns.take k) ++ num n := by
  obtain ⟨hk, rfl⟩ := List.getElem?_eq_some_iff.1 h
  unfold nums
  rw [List.take_succ_eq_append_getElem hk, List.flatMap_append]
  simp
theorem flat_snoc {α : Type} (f : α → List UInt8) (xs : List α) (k : Nat) (x : α) (h : xs[k]? = some x) : (xs.take (k + 1)).flatMap f = (xs.take k).flatMap f ++ f x := by
  obtain ⟨hk, rfl⟩ := List.getElem?_eq_some_iff.1 h
  rw [List.take_succ_eq_append_getElem hk, List.flatMap_append]
  simp
theorem flat_le {α : Type} (f : α → List UInt8) (xs : List α) (k : Nat) : ((xs.take k).flatMap f).length ≤ (xs.flatMap f).length := by
  conv => rhs; rw [← List.take_append_drop k xs]
  rw [List.flatMap_append, List.length_append]
  omega
theorem nums_le (ns : List Nat) (k : Nat) : (nums (ns.take k)).length ≤ (nums ns).length := flat_le num ns k
theorem flat_bound {α : Type} (f : α → List UInt8) (b : Nat) (xs : List α) (h : ∀ x ∈ xs, (f x).length ≤ b) : (xs.flatMap f).length ≤ xs.length * b := by
  induction xs with
  | nil => simp
  | cons x t ih =>
    rw [List.flatMap_cons, List.length_append, List.length_cons, Nat.succ_mul]
    have := h x (List.mem_cons_self ..)
    have := ih fun y hy => h y (List.mem_cons_of_mem _ hy)
    omega
theorem nums_len (ns : List Nat) (h : ∀ n ∈ ns, n < 2 ^ 64) : (nums ns).length ≤ ns.length * 10 := flat_bound num 10 ns fun n hn => num_len n (h n hn)
theorem bodyB_len {m : Mg} (hw : WMg m) (hn : m.ballot < two64 ∧ ∀ v ∈ m.votes, v.ballot < two64) : (bodyB m).length ≤ 300000 := by
  unfold two64 at hn
  unfold bodyB headB textB
  have h1 := nums_len [m.kind.toNat, m.frm.toNat, m.dst.toNat, m.grp.toNat, m.slot.toNat] (fun n hx => by
    simp only [List.mem_cons, List.not_mem_nil, or_false] at hx
    have := hw.kind; have := hw.frm; have := hw.dst; have := hw.grp; have := hw.slot
    rcases hx with rfl | rfl | rfl | rfl | rfl <;> omega)
  have h2 := num_len m.ballot (by omega)
  have h3 := hw.value
  have h4 := num_len m.value.length (by omega)
  have h5 := hw.few
  have h6 := num_len m.votes.length (by omega)
  have h7 := flat_bound voteB 4200 m.votes fun v hv => by
    have k1 := hw.votes v hv
    have k2 := hn.2 v hv
    unfold voteB textB
    simp only [List.length_append]
    have := num_len v.slot.toNat (by omega)
    have := num_len v.ballot (by omega)
    have := num_len v.value.length (by omega)
    omega
  have : m.votes.length * 4200 ≤ 64 * 4200 := Nat.mul_le_mul_right _ h5
  simp only [List.length_append, List.length_cons, List.length_nil] at *
  omega
theorem msgB_len {m : Mg} (hw : WMg m) (hn : m.ballot < two64 ∧ ∀ v ∈ m.votes, v.ballot < two64) : (msgB m).length ≤ 300010 := by
  unfold msgB
  rw [List.length_append]
  have := bodyB_len hw hn
  have := num_len (sumN (bodyB m)) (by have := sumN_lt (bodyB m); omega)
  omega

/- what keeps what. -/
theorem own_blk {w : World} {base : Nat} {e : TypeId} {size n : Nat} {v : Value} {xs : List Value} (h : w.ownsRow base e size v n xs) {k : Nat} (hk : v.ownBlock = some k) : base ≤ k ∧ k < w.heap.size := by
  rcases h.2 with ⟨h1, _⟩ | ⟨g, cap, cur, h1, h2, hh, _⟩
  · rw [h1] at hk; cases hk
  · rw [h1] at hk
    have : g = k := by simpa [Value.ownBlock] using hk
    subst this
    exact ⟨h2, (Array.getElem?_eq_some_iff.1 hh).1⟩

theorem own_cap {w : World} {base : Nat} {e : TypeId} {size n c : Nat} {A : Option Addr} {xs : List Value} (h : w.ownsRow base e size (.slice A n c) n xs) : c ≤ maxLen := by
  rcases h.2 with ⟨h1, _⟩ | ⟨g, cap, cur, h1, _, _, _, hcm, _⟩
  · injection h1 with _ _ h1
    subst h1
    exact Nat.zero_le _
  · injection h1 with _ _ h1
    subst h1
    exact hcm
theorem Wro.old {w0 w w' : World} {base g : Nat} {v v' : Value} {l l' : List UInt8} (h0 : Fr NoBlk w0 w) (hg : w0.heap.size ≤ g) (hb : w0.heap.size ≤ base) (hp : Pen w base g v l) (h : Wro w w' base g v v' l') : Fr NoBlk w0 w' :=
  h0.step h.fr fun i hi e => by
    rcases e with e | e
    · omega
    · have := (own_blk hp.own e.symm).1; omega
theorem Wro.keep {w w' : World} {base g : Nat} {v v' : Value} {l l' : List UInt8} (hp : Pen w base g v l) (h : Wro w w' base g v v' l') {k : Nat} {T : TypeId} {cs : Array Value} (hb : Bk w k T cs) (h1 : 5 ≠ T) (h2 : T ≠ 51) : Bk w' k T cs :=
  hb.fr h.fr fun e => by
    rcases e with e | e
    · exact Bk.apart hb hp.bk h2 e
    · exact own_apart hp.own hb h1 e.symm
theorem Pen.nofr {w w' : World} {base g : Nat} {v : Value} {l : List UInt8} (h : Pen w base g v l) (hf : Fr NoBlk w w') : Pen w' base g v l := h.keep hf (fun h => h) (fun _ _ h => h)
theorem Wro.pre {w w0 w1 : World} {base g : Nat} {v v1 : Value} {l : List UInt8} (hf : Fr NoBlk w w0) (h : Wro w0 w1 base g v v1 l) : Wro w w1 base g v v1 l :=
  ⟨h.pen, (hf.mono fun _ _ h => h.elim).trans h.fr, by
    rcases h.blk with h1 | ⟨k, e, hk⟩
    · exact .inl h1
    · exact .inr ⟨k, e, Nat.le_trans hf.size hk⟩⟩
theorem Pen.lt {w : World} {base g : Nat} {v : Value} {l : List UInt8} (h : Pen w base g v l) : g < w.heap.size ∧ ∀ k, v.ownBlock = some k → k < w.heap.size := ⟨h.bk.lt, fun _ hk => (own_blk h.own hk).2⟩
theorem strBs (w : World) (A : Option Addr) (n c : Nat) (l : List UInt8) (hn : n = l.length) (hr : Rd w A (cb l)) :
    (convert 28 9 (.slice A n c)).run Tryd.prog w = .ok (.string (bstr l)) w :=
  run_str w _ _ 5 Tryd.underlying28 Tryd.underlying5 Tryd.underlying9 A c l n hn hr
theorem Bk.cast {w : World} {g : Nat} {T : TypeId} {cs cs' : Array Value} (h : Bk w g T cs) (e : cs = cs') : Bk w g T cs' := e ▸ h
end Go.Proofs.YtdpjmkgjjhcgeaaDoor
