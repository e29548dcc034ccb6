/- The document's link: how it lies, New, Send, at. Conditions: it lies in blocks of its own; few data, small ones. -/
import Derived.Test.YtchlafhmoncldaaAgM
namespace Go.Proofs.Ytchlafhmoncldaa
open Go.RowKit Go.Maps Go.ChangeMaps Go.MapKept Go.WideShapes

theorem earInfo : (Try.prog.info? 76).map (fun i => (i.zero, i.size, i.bytes)) = some (some (.agg #[.int .u64 0, .slice none 0 0]), 2, 32) := by kernel_rfl
/-- a row that can be read, in blocks of M. -/
structure Rdm (M : Nat → Prop) (W : World) (A : Option Addr) (xs : List Value) : Prop where
  rd : Rd W A xs
  mem : 0 < xs.length → ∀ k, ablk A k → M k
theorem Rdm.fr {M C : Nat → Prop} {W W' : World} {A : Option Addr} {xs : List Value} (h : Rdm M W A xs) (hf : Fr C W W') (hn : ∀ k, M k → ¬ C k) : Rdm M W' A xs := ⟨h.rd.fr' hf fun hx k hk => hn k (h.mem hx k hk), h.mem⟩
theorem Rdm.mono {M M' : Nat → Prop} {W : World} {A : Option Addr} {xs : List Value} (h : Rdm M W A xs) (hM : ∀ k, M k → M' k) : Rdm M' W A xs := ⟨h.rd, fun hx k hk => hM k (h.mem hx k hk)⟩
theorem Rdm.nil (M : Nat → Prop) (W : World) (A : Option Addr) : Rdm M W A [] := ⟨Rd.nil_ _ _, fun h => absurd h (by simp)⟩
theorem Rdm.own {M : Nat → Prop} {W : World} {base n c : Nat} {e : TypeId} {A : Option Addr} {xs : List Value} {size : Nat} (h : W.ownsRow base e size (.slice A n c) n xs) (hM : ∀ k, (Value.slice A n c).ownBlock = some k → M k) : Rdm M W A xs :=
  ⟨Rd.of_ownN h, fun _ k hk => by
    obtain ⟨a, rfl, rfl⟩ := hk
    exact hM _ rfl⟩
/-- bytes of the document's link. -/
structure Pm (M : Nat → Prop) (W : World) (p : Prt) : Prop where
  rd : Rdm M W p.1 (cb p.2.2)
  nil : p.1 = none → p.2.1 = 0
  len : p.2.2.length ≤ 1000000
theorem Pm.fr {M C : Nat → Prop} {W W' : World} {p : Prt} (h : Pm M W p) (hf : Fr C W W') (hn : ∀ k, M k → ¬ C k) : Pm M W' p := ⟨h.rd.fr hf hn, h.nil, h.len⟩
theorem Pm.mono {M M' : Nat → Prop} {W : World} {p : Prt} (h : Pm M W p) (hM : ∀ k, M k → M' k) : Pm M' W p := ⟨h.rd.mono hM, h.nil, h.len⟩
/-- data ahead of their turn. -/
abbrev Er := Nat × Prt
def erc (x : Er) : List Value := [.int .u64 (x.1 : Int), sl x.2]
def ersc (xs : List Er) : List Value := xs.flatMap erc
theorem erc_len (x : Er) : (erc x).length = 2 := rfl
theorem ersc_len (xs : List Er) : (ersc xs).length = xs.length * 2 := cat_len erc 2 erc_len xs
theorem ersc_append (xs ys : List Er) : ersc (xs ++ ys) = ersc xs ++ ersc ys := List.flatMap_append ..
theorem ersc_one (xs : List Er) : ∀ u ∈ ersc xs, u.oneCell' = true := by
  intro u hu
  simp only [ersc, List.mem_flatMap, erc, List.mem_cons, List.not_mem_nil, or_false] at hu
  obtain ⟨x, _, rfl | rfl⟩ := hu <;> rfl
theorem sl_one (xs : List Prt) : ∀ u ∈ xs.map sl, u.oneCell' = true := by
  intro u hu
  obtain ⟨x, _, rfl⟩ := List.mem_map.1 hu
  rfl
/-- the document's link, and where its rows lie. -/
structure Rk where
  ep : Nat
  pe : Nat
  ba : Nat
  ex : Nat
  ao : Option Addr
  co : Nat
  outs : List Prt
  ae : Option Addr
  ce : Nat
  ers : List Er
def rka (R : Rk) : Array Value := #[.int .u64 (R.ep : Int), .int .u64 (R.pe : Int), .int .u64 (R.ba : Int), .int .u64 (R.ex : Int), .slice R.ao R.outs.length R.co, .slice R.ae R.ers.length R.ce]
structure RkIn (M : Nat → Prop) (W : World) (m : Nat) (R : Rk) : Prop where
  bk : Bk W m 48 (rka R)
  out : Rdm M W R.ao (R.outs.map sl)
  ear : Rdm M W R.ae (ersc R.ers)
  outc : R.outs.length ≤ R.co ∧ R.co ≤ maxLen ∧ (R.ao = none → R.co = 0)
  earc : R.ers.length ≤ R.ce ∧ R.ce ≤ maxLen ∧ (R.ae = none → R.ce = 0)
  od : ∀ p ∈ R.outs, Pm M W p
  ed : ∀ x ∈ R.ers, Pm M W x.2
  mm : ¬ M m
  ml : ∀ k, M k → k < W.heap.size
  nums : R.ep < 2 ^ 64 ∧ R.pe < 2 ^ 64 ∧ R.ba < 2 ^ 64 ∧ R.ex < 2 ^ 64
  few : R.outs.length ≤ 16 ∧ R.ers.length ≤ 1000
theorem RkIn.fr {M C : Nat → Prop} {W W' : World} {m : Nat} {R : Rk} (h : RkIn M W m R) (hf : Fr C W W') (hn : ∀ k, M k ∨ k = m → ¬ C k) : RkIn M W' m R :=
  ⟨h.bk.fr hf (hn m (.inr rfl)), h.out.fr hf fun k hk => hn k (.inl hk), h.ear.fr hf fun k hk => hn k (.inl hk), h.outc, h.earc, fun p hp => (h.od p hp).fr hf fun k hk => hn k (.inl hk), fun x hx => (h.ed x hx).fr hf fun k hk => hn k (.inl hk), h.mm, fun k hk => Nat.lt_of_lt_of_le (h.ml k hk) hf.size, h.nums, h.few⟩
theorem RkIn.nofr {M : Nat → Prop} {W W' : World} {m : Nat} {R : Rk} (h : RkIn M W m R) (hf : Fr NoBlk W W') : RkIn M W' m R := h.fr hf fun _ _ h => h
theorem RkIn.cells {M : Nat → Prop} {W : World} {m : Nat} {R : Rk} (h : RkIn M W m R) :
    W.cell? ⟨m, 0, none⟩ = some (.int .u64 (R.ep : Int)) ∧ W.cell? ⟨m, 1, none⟩ = some (.int .u64 (R.pe : Int)) ∧ W.cell? ⟨m, 2, none⟩ = some (.int .u64 (R.ba : Int)) ∧ W.cell? ⟨m, 3, none⟩ = some (.int .u64 (R.ex : Int)) ∧ W.cell? ⟨m, 4, none⟩ = some (.slice R.ao R.outs.length R.co) ∧ W.cell? ⟨m, 5, none⟩ = some (.slice R.ae R.ers.length R.ce) :=
  ⟨h.bk.cell 0, h.bk.cell 1, h.bk.cell 2, h.bk.cell 3, h.bk.cell 4, h.bk.cell 5⟩
/-- one of its fields told anew. -/
theorem RkIn.put {M M' : Nat → Prop} {W : World} {m : Nat} {R R' : Rk} (h : RkIn M W m R) (i : Nat) (v : Value) (hu : (rka R).setIfInBounds i v = rka R') (hM : ∀ k, M k → M' k) (hm : ¬ M' m) (hl : ∀ k, M' k → k < W.heap.size)
    (ho : (R'.ao, R'.co, R'.outs) = (R.ao, R.co, R.outs) ∨ (Rdm M' W R'.ao (R'.outs.map sl) ∧ (R'.outs.length ≤ R'.co ∧ R'.co ≤ maxLen ∧ (R'.ao = none → R'.co = 0)) ∧ (∀ p ∈ R'.outs, Pm M' W p) ∧ R'.outs.length ≤ 16))
    (he : (R'.ae, R'.ce, R'.ers) = (R.ae, R.ce, R.ers) ∨ (Rdm M' W R'.ae (ersc R'.ers) ∧ (R'.ers.length ≤ R'.ce ∧ R'.ce ≤ maxLen ∧ (R'.ae = none → R'.ce = 0)) ∧ (∀ x ∈ R'.ers, Pm M' W x.2) ∧ R'.ers.length ≤ 1000))
    (hn : R'.ep < 2 ^ 64 ∧ R'.pe < 2 ^ 64 ∧ R'.ba < 2 ^ 64 ∧ R'.ex < 2 ^ 64) :
    RkIn M' (W.setCell ⟨m, i, none⟩ v) m R' ∧ Fr (fun k => k = m) W (W.setCell ⟨m, i, none⟩ v) := by
  have hf : Fr (fun k => k = m) W (W.setCell ⟨m, i, none⟩ v) := (Fr.refl (fun k => k = m) W).setCell (p := ⟨m, i, none⟩) (fun _ => rfl) v
  have hne : ∀ k, M' k → ¬ k = m := fun k hk e => hm (e ▸ hk)
  obtain ⟨ep', pe', ba', ex', ao', co', outs', ae', ce', ers'⟩ := R'
  have ho' : Rdm M' W ao' (outs'.map sl) ∧ (outs'.length ≤ co' ∧ co' ≤ maxLen ∧ (ao' = none → co' = 0)) ∧ (∀ p ∈ outs', Pm M' W p) ∧ outs'.length ≤ 16 := by
    rcases ho with ho | ho
    · simp only [Prod.mk.injEq] at ho
      obtain ⟨rfl, rfl, rfl⟩ := ho
      exact ⟨h.out.mono hM, h.outc, fun p hp => (h.od p hp).mono hM, h.few.1⟩
    · exact ho
  have he' : Rdm M' W ae' (ersc ers') ∧ (ers'.length ≤ ce' ∧ ce' ≤ maxLen ∧ (ae' = none → ce' = 0)) ∧ (∀ x ∈ ers', Pm M' W x.2) ∧ ers'.length ≤ 1000 := by
    rcases he with he | he
    · simp only [Prod.mk.injEq] at he
      obtain ⟨rfl, rfl, rfl⟩ := he
      exact ⟨h.ear.mono hM, h.earc, fun p hp => (h.ed p hp).mono hM, h.few.2⟩
    · exact he
  exact ⟨⟨hu ▸ h.bk.put i v, ho'.1.fr hf hne, he'.1.fr hf hne, ho'.2.1, he'.2.1, fun p hp => (ho'.2.2.1 p hp).fr hf hne, fun x hx => (he'.2.2.1 x hx).fr hf hne, hm, fun k hk => Nat.lt_of_lt_of_le (hl k hk) hf.size, hn, ho'.2.2.2, he'.2.2.2⟩, hf⟩

set_option maxRecDepth 100000 in
theorem rnew_any (W : World) (epoch : Nat) (he : epoch < 2 ^ 64) :
    Calls Try.prog 11 #[.int .u64 (epoch : Int)] W fun e W' => ∃ m, e = .returned (.pointer (some ⟨m, 0, none⟩)) ∧ RkIn (fun _ => False) W' m ⟨epoch, 0, 1, 1, none, 0, [], none, 0, []⟩ ∧ Fr NoBlk W W' ∧ W.heap.size ≤ m := by
  have HF : Hid (Fr NoBlk W (W.alloc (.cells #[.int .u64 (epoch : Int), .int .u64 0, .int .u64 1, .int .u64 1, .slice none 0 0, .slice none 0 0] 48))) := (Fr.refl _ _).alloc _
  have HB : Hid (RkIn (fun _ => False) (W.alloc (.cells #[.int .u64 (epoch : Int), .int .u64 0, .int .u64 1, .int .u64 1, .slice none 0 0, .slice none 0 0] 48)) W.heap.size ⟨epoch, 0, 1, 1, none, 0, [], none, 0, []⟩) :=
    ⟨Bk.new _ _ _, Rdm.nil _ _ _, Rdm.nil _ _ _, ⟨Nat.le_refl _, by show (0 : Nat) ≤ maxLen; decide, fun _ => rfl⟩, ⟨Nat.le_refl _, by show (0 : Nat) ≤ maxLen; decide, fun _ => rfl⟩, (fun _ h => by cases h), (fun _ h => by cases h), (fun h => h), (fun _ h => h.elim), ⟨he, by show (0 : Nat) < _; omega, by show (1 : Nat) < _; omega, by show (1 : Nat) < _; omega⟩, Nat.zero_le _, Nat.zero_le _⟩
  clear he
  go_enter Try.func11, Try.ntmps11
  go_wp2_with fail
  go_ret
  exact ⟨_, rfl, HB.out, HF.out, Nat.le_refl _⟩

/-- the place of early data. -/
def atE : List Er → Nat → Option Nat
  | [], _ => none
  | x :: t, s => if x.1 = s then some 0 else (atE t s).map (· + 1)
def atI (xs : List Er) (s : Nat) : Int := match atE xs s with
  | some i => (i : Int)
  | none => -1
theorem atE_skip (xs : List Er) (k s : Nat) (h : ∀ (j : Nat) (x : Er), j < k → xs[j]? = some x → x.1 ≠ s) {x : Er} (hk : xs[k]? = some x) (hx : x.1 = s) : atE xs s = some k := by
  induction xs generalizing k with
  | nil => cases hk
  | cons y t ih =>
    cases k with
    | zero =>
      injection hk with hk
      subst hk
      unfold atE
      rw [if_pos hx]
    | succ k =>
      unfold atE
      rw [if_neg (h 0 y (by omega) rfl), ih k (fun j z hj hz => h (j + 1) z (by omega) hz) hk]
      rfl
theorem atE_no (xs : List Er) (s : Nat) (h : ∀ (j : Nat) (x : Er), xs[j]? = some x → x.1 ≠ s) : atE xs s = none := by
  induction xs with
  | nil => rfl
  | cons y t ih =>
    unfold atE
    rw [if_neg (h 0 y rfl), ih fun j x hx => h (j + 1) x hx]
    rfl
set_option maxRecDepth 100000 in
set_option maxHeartbeats 1000000 in
theorem rat_any (W : World) (M : Nat → Prop) (m : Nat) (R : Rk) (h : RkIn M W m R) (s : Nat) : Calls Try.prog 30 #[.pointer (some ⟨m, 0, none⟩), .int .u64 (s : Int)] W fun e W' => e = .returned (.int .i64 (atI R.ers s)) ∧ W = W' := by
  have HL := Lib.hid h
  obtain ⟨_, _, _, _, _, c5⟩ := h.cells
  have hfew := h.few.2
  have hcap := h.earc.1
  clear h
  go_enter Try.func30, Try.ntmps30
  go_wp2_with fail
  go_loopw [5] (fun t wr => ∃ k : Nat, k ≤ R.ers.length ∧ t = .int .i64 (k : Int) ∧ Hid (∀ j x, j < k → R.ers[j]? = some x → x.1 ≠ s) ∧ wr = W) (fun t _ => R.ers.length - (intOf t).toNat)
  case atStart => exact ⟨0, by omega, rfl, (fun j x hj => by omega), rfl⟩
  case round =>
    obtain ⟨k, hk, rfl, HN, rfl⟩ := hrel
    by_cases hlt : k < R.ers.length
    · obtain ⟨x, hx⟩ : ∃ x, R.ers[k]? = some x := ⟨_, List.getElem?_eq_getElem hlt⟩
      obtain ⟨b, o, hA, hc⟩ := Rd.cat erc 2 erc_len HL.out.ear.rd (by omega) hx
      have u0 := hc 0 _ rfl
      simp only [Nat.add_zero] at u0
      have HX := Lib.hid hx
      rw [hA] at c5
      clear hx hc
      by_cases he : x.1 = s
      · have heq : ((x.1 : Int) == (s : Int)) = true := by rw [he]; exact beq_self_eq_true _
        have HA : Hid (atI R.ers s = (k : Int)) := by show _ = _; unfold atI; rw [atE_skip R.ers k s HN.out HX.out he]
        clear he
        go_wp2_with fail
        go_ret
        exact ⟨by rw [HA.out]; rfl, rfl⟩
      · have heq : ((x.1 : Int) == (s : Int)) = false := beq_eq_false_iff_ne.2 (by omega)
        have HN2 : Hid (∀ j y, j < k + 1 → R.ers[j]? = some y → y.1 ≠ s) := fun j y hj hy => by
          by_cases hjk : j < k
          · exact HN.out j y hjk hy
          · obtain rfl : j = k := by omega
            rw [HX.out] at hy
            injection hy with hy
            subst hy
            exact he
        clear he
        go_wp2_with fail
        go_roundw
        case rel => exact ⟨k + 1, by omega, by go_num, HN2, by first | rfl | trivial⟩
        case measure => simp [intOf]; omega
    · have HA : Hid (atI R.ers s = -1) := by
        show _ = _
        unfold atI
        rw [atE_no R.ers s fun j x hx => HN.out j x (by have := (List.getElem?_eq_some_iff.1 hx).1; omega) hx]
      go_wp2_with fail
      go_ret
      exact ⟨by rw [HA.out]; rfl, rfl⟩
end Go.Proofs.Ytchlafhmoncldaa
