/- The document's link: rows of early data. No condition. -/
import Derived.Test.YtchlafhmoncldaaRv
namespace Go.Proofs.Ytchlafhmoncldaa
open Go.RowKit Go.Maps Go.ChangeMaps Go.MapKept Go.WideShapes

theorem step_appN {P : Program} {w : World} {ops : Array Oper} {o : Oper} {a : Act} {K : Act → World → Prop} {Q : Exit → Act → World → Prop} {E : Prop} (hgd : o.guard = none) (s x : Operand) (t : TypeId)
    (ho : o.op = .call { callee := .builtin .append, args := #[s, x], argTypes := #[t, t] })
    (base : Nat) (e : TypeId) (i : TypeInfo) (z : Value) (size bytes : Nat) (ht : P.underlying t = some (.slice e)) (hi : P.info? e = some i) (hz : i.zero = some z)
    (hsize : i.size = size) (hby : i.bytes = bytes) (hzs : z.cells.size = size) (hpos : 0 < size)
    (v : Value) (n : Nat) (xs : List Value) (hs : a.eval s = v) (hown : w.ownsRow base e size v n xs)
    (A : Option Addr) (c m : Nat) (news : List Value) (hx : a.eval x = .slice A m c) (hm : news.length = m * size) (hr : Rd w A news) (h1 : ∀ u ∈ news, u.oneCell' = true)
    (hA : A = none → c = 0)
    (h63 : n + m ≤ maxLen) (hbytes : (n + m) * bytes ≤ 140737488355328) (hbase : base ≤ w.heap.size)
    (h : ∀ v' w', w'.ownsRow base e size v' (n + m) (xs ++ news) → w.grownBy w' v.ownBlock → (v'.ownBlock = v.ownBlock ∨ v'.ownBlock = some w.heap.size) → K (a.put o.dst v') w') :
    if Region.wanted o (yielded ops a.tmps) = true then Oper.wp P o a w K Q else E := by
  rcases A with _ | ad
  · have hn : news = [] := by
      rcases Nat.eq_zero_or_pos news.length with h0 | h0
      · exact List.eq_nil_of_length_eq_zero h0
      · obtain ⟨_, _, h, _⟩ := hr h0
        cases h
    subst hn
    obtain rfl : m = 0 := by
      rcases Nat.eq_zero_or_pos m with h0 | h0
      · exact h0
      · have := Nat.mul_pos h0 hpos
        simp only [List.length_nil] at hm
        omega
    obtain rfl := hA rfl
    have hw : Region.wanted o (yielded ops a.tmps) = true := by simp [Region.wanted, hgd]
    rw [if_pos hw]
    have hrun := run_append_owned_none (P := P) w base t o.type e i size ht hi v n xs hown
    unfold Oper.wp execOp
    simp only [ho, resolve, invoke, builtin, Sem.run_bind, Sem.run_pure, Result.andThen_ok, List.map_toArray, List.map_cons, List.map_nil, hs, hx, hrun]
    exact h v w (by simpa using hown) (World.grownBy.refl w _) (.inl rfl)
  · exact step_appO hgd s x t ho base e i z size bytes ht hi hz hsize hby hzs hpos v n xs hs hown ad c m news hx hm hr h1 h63 hbytes hbase h
theorem ersc_take (xs : List Er) (k : Nat) : (ersc xs).take (k * 2) = ersc (xs.take k) := by
  induction xs generalizing k with
  | nil => simp [ersc]
  | cons x t ih =>
    cases k with
    | zero => simp [ersc]
    | succ k =>
      show (erc x ++ ersc t).take ((k + 1) * 2) = erc x ++ ersc (t.take k)
      rw [show (k + 1) * 2 = (erc x).length + k * 2 by rw [erc_len]; omega, List.take_length_add_append, ih]
theorem ersc_drop (xs : List Er) (k : Nat) : (ersc xs).drop (k * 2) = ersc (xs.drop k) := by
  induction xs generalizing k with
  | nil => simp [ersc]
  | cons x t ih =>
    cases k with
    | zero => simp [ersc]
    | succ k =>
      show (erc x ++ ersc t).drop ((k + 1) * 2) = ersc (t.drop k)
      rw [show (k + 1) * 2 = (erc x).length + k * 2 by rw [erc_len]; omega, List.drop_length_add_append, ih]
theorem ersc_erase (xs : List Er) (k : Nat) : (ersc xs).take (k * 2) ++ (ersc xs).drop ((k + 1) * 2) = ersc (xs.eraseIdx k) := by
  rw [ersc_take, ersc_drop, ← ersc_append, List.eraseIdx_eq_take_drop_succ]
/-- a packet's data are not the link's own block. -/
theorem rd_apart {M : Nat → Prop} {W : World} {m : Nat} {R : Rk} (h : RkIn M W m R) {A : Option Addr} {d : Bs} (hr : Rd W A (cb d)) (hp : 0 < (cb d).length) (k : Nat) (hk : ablk A k) : ¬ k = m := by
  rintro rfl
  obtain ⟨b, o, e, hc⟩ := hr hp
  obtain ⟨a, ha, hb⟩ := hk
  rw [e] at ha
  injection ha with ha
  subst ha
  dsimp only at hb
  subst hb
  cases d with
  | nil => exact absurd hp (Nat.lt_irrefl 0)
  | cons x t =>
    have h0 := hc 0 _ rfl
    rw [Nat.add_zero, h.bk.cell o] at h0
    unfold rka at h0
    match o, h0 with
    | 0, h0 => simp at h0
    | 1, h0 => simp at h0
    | 2, h0 => simp at h0
    | 3, h0 => simp at h0
    | 4, h0 => simp at h0
    | 5, h0 => simp at h0
    | _ + 6, h0 => simp at h0
theorem RkIn.put5 {M M' : Nat → Prop} {W : World} {m : Nat} {R : Rk} (h : RkIn M W m R) {B n c : Nat} {A : Option Addr} {xs : List Er} (ho : W.ownsRow B 76 2 (.slice A n c) n (ersc xs)) (hl : xs.length = n) (hM : ∀ k, M k → M' k) (hA : ∀ k, (Value.slice A n c).ownBlock = some k → M' k) (hd : ∀ x ∈ xs, Pm M' W x.2) (hf : n ≤ 1000) (hm : ¬ M' m) (hml : ∀ k, M' k → k < W.heap.size) :
    RkIn M' (W.setCell ⟨m, 5, none⟩ (.slice A n c)) m { R with ae := A, ce := c, ers := xs } ∧ Fr (fun k => k = m) W (W.setCell ⟨m, 5, none⟩ (.slice A n c)) := by
  have hc := own_lens ho
  subst hl
  exact h.put (M' := M') (R' := { R with ae := A, ce := c, ers := xs }) 5 (.slice A xs.length c) (by unfold rka; simp only [List.setIfInBounds_toArray, List.set_cons_zero, List.set_cons_succ]) hM hm hml (.inl rfl) (.inr ⟨Rdm.own ho hA, ⟨hc.1, hc.2.1, hc.2.2⟩, hd, hf⟩) h.nums
theorem DrV.next {V : Rv} {R3 : Rk} {qs : List Prt} {x : Er} {i nx c : Nat} {A : Option Addr} (h : DrV V (qs.map (·.2.2)) (rv R3)) (hx : R3.ers[i]? = some x) (he : x.1 = R3.ex) (hn : nx = (R3.ex + 1) % 2 ^ 64) :
    DrV V ((qs ++ [x.2]).map (·.2.2)) (rv { R3 with ae := A, ce := c, ers := R3.ers.eraseIdx i, ex := nx }) := by
  subst hn
  have h1 := DrV.snoc (i := i) (x := (x.1, x.2.2.2)) h (by show (R3.ers.map _)[i]? = _; rw [List.getElem?_map, hx]; rfl) he
  rw [List.map_append]
  have e : (R3.ers.eraseIdx i).map (fun y : Er => (y.1, y.2.2.2)) = (R3.ers.map fun y : Er => (y.1, y.2.2.2)).eraseIdx i := by
    rw [List.eraseIdx_eq_take_drop_succ, List.eraseIdx_eq_take_drop_succ, List.map_append, List.map_take, List.map_drop]
  have e2 : rv { R3 with ae := A, ce := c, ers := R3.ers.eraseIdx i, ex := (R3.ex + 1) % 2 ^ 64 } = { rv R3 with ers := (rv R3).ers.eraseIdx i, ex := ((rv R3).ex + 1) % 2 ^ 64 } := by
    show Rv.mk _ _ _ _ _ ((R3.ers.eraseIdx i).map _) = Rv.mk _ _ _ _ _ ((R3.ers.map _).eraseIdx i)
    rw [e]
    rfl
  rw [e2]
  exact h1
end Go.Proofs.Ytchlafhmoncldaa
