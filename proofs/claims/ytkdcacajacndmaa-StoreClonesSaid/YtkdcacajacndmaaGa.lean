/- What Rows and Range gather: rows in new memory. No condition. -/
import Derived.RangeFuncFrom
import Derived.RangeFuncNested
import Derived.RangeFuncBox
import Derived.Test.YtkdcacajacndmaaN5Z
import Derived.Test.YtkdcacajacndmaaAppW
import Derived.Test.YtkdcacajacndmaaStA
namespace Go.Proofs.Ytkdcacajacndmaa
open Go.RowKit Go.Shelf Go.Maps
attribute [local go_sem] Oper.semAt_some

theorem step_appWIn {F : Fence} {nF : Nat} {P : Program} {w : World} {ops : Array Oper} {o : Oper} {a : Act} {K : Act → World → Prop} {Q : Exit → Act → World → Prop} {E : Prop} (hgd : o.guard = none) (s x : Operand) (t : TypeId)
    (ho : o.op = .call { callee := .builtin .append, args := #[s, x], argTypes := #[t, t] })
    (base : Nat) (e : TypeId) (i : TypeInfo) (z : Value) (size bytes : Nat) (ht : P.underlying t = some (.slice e)) (hi : P.info? e = some i) (hz : i.zero = some z)
    (hsize : i.size = size) (hby : i.bytes = bytes) (hzs : z.cells.size = size) (hpos : 0 < size)
    (v : Value) (n : Nat) (xs : List Value) (hs : a.eval s = v) (hown : w.ownsRow base e size v n xs)
    (A : Option Addr) (c m : Nat) (news : List Value) (hx : a.eval x = .slice A m c) (hm : news.length = m * size) (hr : Rd w A news) (h1 : ∀ u ∈ news, u.oneCell' = true)
    (hA : A = none → c = 0)
    (h63 : n + m ≤ maxLen) (hbytes : (n + m) * bytes ≤ 140737488355328) (hbase : base ≤ w.heap.size)
    (h : ∀ v' w', w'.ownsRow base e size v' (n + m) (xs ++ news) → w.grownBy w' v.ownBlock → (v'.ownBlock = v.ownBlock ∨ v'.ownBlock = some w.heap.size) → K (a.put o.dst v') w') :
    if Region.wanted o (yielded ops a.tmps) = true then Oper.wpIn F nF P o a w K Q else E := by
  have hw : Region.wanted o (yielded ops a.tmps) = true := by simp [Region.wanted, hgd]
  rw [if_pos hw]
  obtain ⟨v', w', hrun, h2, h3, h5⟩ := run_appW (P := P) w base t o.type e i z size bytes ht hi hz hsize hby hzs hpos v n xs hown A c m news hm hr h1 hA h63 hbytes hbase
  unfold Oper.wpIn
  refine ⟨by simp [Oper.about, ho, resolve, Target.leads, Sem.run_pure], ?_⟩
  rw [Oper.semAt_plain F _ _ (by rw [ho]; intro c hc'; cases hc')]
  simp [execOp, ho, resolve, invoke, builtin, hs, hx, hrun, Result.andThen]
  exact h v' w' h2 h3 h5


theorem Bk.others {w w' : World} {g : Nat} {t : TypeId} {cs : Array Value} {row : Option Nat} (h : Bk w g t cs) (hg : w.grownBy w' row) (hr : ∀ r, row = some r → ∃ o : Obj, w.heap[r]? = some o ∧ o.isCells = false) : Bk w' g t cs :=
  h.fr (Fr.ofGrown hg) fun e => by
    obtain ⟨o, ho, hc⟩ := hr g e.symm
    unfold Bk at h
    rw [h] at ho
    injection ho with ho
    rw [← ho] at hc
    cases hc
theorem own_others {w w' : World} {base : Nat} {e : TypeId} {size n : Nat} {v : Value} {xs : List Value} {row : Option Nat} (h : w.ownsRow base e size v n xs) (hg : w.grownBy w' row) (hr : ∀ r, row = some r → ∃ o : Obj, w.heap[r]? = some o ∧ o.isCells = false) : w'.ownsRow base e size v n xs :=
  own_fr h (Fr.ofGrown hg) fun k hk e => by
    obtain ⟨o, ho, hc⟩ := hr k e.symm
    rcases h.2 with ⟨rfl, _⟩ | ⟨g, cap, cur, rfl, _, hh, _⟩
    · cases hk
    · have e1 : g = k := by simpa [Value.ownBlock] using hk
      subst e1
      rw [hh] at ho
      injection ho with ho
      rw [← ho] at hc
      cases hc
theorem Byt.not_row {w : World} {base size n : Nat} {e : TypeId} {v : Value} {xs : List Value} (h : w.ownsRow base e size v n xs) (he : e ≠ 5) : ∀ k, Byt w k → ¬ some k = v.ownBlock := fun k hk e1 => by
  rcases h.2 with ⟨rfl, _⟩ | ⟨g, cap, cur, rfl, _, hh, _⟩
  · cases e1
  · have e2 : k = g := by simpa [Value.ownBlock] using e1
    subst e2
    exact Byt.no (show Bk w k e cur from hh) he hk
/-- rows in memory made since N: as those told. -/
def RowsOf (W : World) (N : Nat) (ys : List ItR) (rs : List Rw) : Prop := ys.length = rs.length ∧ ∀ (j : Nat) (y : ItR) (z : Rw), ys[j]? = some y → rs[j]? = some z → y.1 = z.1 ∧ Fresh N W y.2 z.2
theorem RowsOf.fr {W W' : World} {N : Nat} {ys : List ItR} {rs : List Rw} {C : Nat → Prop} (h : RowsOf W N ys rs) (hf : Fr C W W') (hn : ∀ k, Byt W k → ¬ C k) : RowsOf W' N ys rs :=
  ⟨h.1, fun j y z hy hz => ⟨(h.2 j y z hy hz).1, (h.2 j y z hy hz).2.fr hf hn⟩⟩
theorem RowsOf.low {W : World} {N M : Nat} {ys : List ItR} {rs : List Rw} (h : RowsOf W N ys rs) (hm : M ≤ N) : RowsOf W M ys rs :=
  ⟨h.1, fun j y z hy hz => ⟨(h.2 j y z hy hz).1, (h.2 j y z hy hz).2.low hm⟩⟩
theorem RowsOf.snoc {W : World} {N : Nat} {ys : List ItR} {rs : List Rw} {y : ItR} {z : Rw} (h : RowsOf W N ys rs) (h1 : y.1 = z.1) (h2 : Fresh N W y.2 z.2) : RowsOf W N (ys ++ [y]) (rs ++ [z]) := by
  refine ⟨by rw [List.length_append, List.length_append, h.1]; rfl, fun j a b ha hb => ?_⟩
  rcases Nat.lt_or_ge j ys.length with hj | hj
  · rw [List.getElem?_append_left hj] at ha
    rw [List.getElem?_append_left (by rw [← h.1]; exact hj)] at hb
    exact h.2 j a b ha hb
  · rw [List.getElem?_append_right hj] at ha
    rw [List.getElem?_append_right (by rw [← h.1]; exact hj), ← h.1] at hb
    obtain ⟨k, hk⟩ : ∃ k, k = j - ys.length := ⟨_, rfl⟩
    rw [← hk] at ha hb
    cases k with
    | zero =>
      injection ha with ha
      injection hb with hb
      subst ha hb
      exact ⟨h1, h2⟩
    | succ k => cases ha
theorem rowInfo : (Try.prog.info? 61).map (fun i => (i.zero, i.size, i.bytes)) = some (some (.agg #[.string { data := #[] }, .bool false, .slice none 0 0, .int .i64 0, .int .u64 0]), 5, 64) := by kernel_rfl
/-- what is gathered: in the box gd a row of rows. -/
structure GatZ (w : World) (gd : Nat) (rs : List Rw) (W : World) : Prop where
  box : ∃ v ys, Bk W gd 40 #[v] ∧ W.ownsRow w.heap.size 61 5 v rs.length (itsR ys) ∧ RowsOf W w.heap.size ys rs
  fr : Fr NoBlk w W
  ge : w.heap.size ≤ gd
theorem GatZ.others {w W W' : World} {gd : Nat} {rs : List Rw} {row : Option Nat} (h : GatZ w gd rs W) (hg : W.grownBy W' row) (hr : ∀ r, row = some r → w.heap.size ≤ r ∧ ∃ o : Obj, W.heap[r]? = some o ∧ o.isCells = false) : GatZ w gd rs W' := by
  obtain ⟨v, ys, h1, h2, h3⟩ := h.box
  refine ⟨⟨v, ys, h1.others hg fun r e => (hr r e).2, own_others h2 hg fun r e => (hr r e).2, h3.fr (Fr.ofGrown hg) fun k hk e => ?_⟩, h.fr.grown hg (fun r e hl => by have := (hr r e).1; omega), h.ge⟩
  obtain ⟨_, o, ho, hc⟩ := hr k e.symm
  obtain ⟨cs, fr, hh⟩ := hk
  rw [hh] at ho
  injection ho with ho
  rw [← ho] at hc
  cases hc
/-- one row more. -/
theorem GatZ.next {w W W4 W5 : World} {gd m : Nat} {rs : List Rw} {x : Rw} {y : ItR} {v v2 : Value} {ys : List ItR} {L : List Value} (h : GatZ w gd rs W) (hbx : Bk W gd 40 #[v]) (hys : RowsOf W w.heap.size ys rs) (hm : m = rs.length) (hL : L = itsR ys) (hW4 : Fr NoBlk W W4) (hy1 : y.1 = x.1) (hy2 : Fresh w.heap.size W4 y.2 x.2)
    (ho4 : W4.ownsRow w.heap.size 61 5 v m L) (ho2 : W5.ownsRow w.heap.size 61 5 v2 (m + 1) (L ++ itsR [y])) (hg2 : W4.grownBy W5 v.ownBlock) {K : Nat → Prop} (hK : ∀ b, K b → b < W.heap.size ∧ b ≠ gd ∧ (w.heap.size ≤ b → ∃ T cs, Bk W b T cs ∧ T ≠ 61)) :
    KeepsOthers W (W5.setCell ⟨gd, 0, none⟩ v2) ∧ Keep K W (W5.setCell ⟨gd, 0, none⟩ v2) ∧ GatZ w gd (rs ++ [x]) (W5.setCell ⟨gd, 0, none⟩ v2) := by
  subst hm hL
  have hb4 := hbx.fr hW4 fun e => e
  have n1 : some gd ≠ v.ownBlock := fun e => own_apart ho4 hb4 (by decide) e.symm
  have hb5 := hb4.fr (Fr.ofGrown hg2) n1
  have n3 : v2.ownBlock ≠ some gd := own_apart ho2 hb5 (by decide)
  have hfs : Fr (fun i => i = gd) W5 (W5.setCell ⟨gd, 0, none⟩ v2) := (Fr.refl (fun i => i = gd) W5).setCell (p := ⟨gd, 0, none⟩) (fun _ => rfl) _
  have hall : Fr (fun i => i = gd ∨ some i = v.ownBlock) W (W5.setCell ⟨gd, 0, none⟩ v2) :=
    ((hW4.mono (D := fun i => i = gd ∨ some i = v.ownBlock) fun _ _ h => h.elim).step (Fr.ofGrown hg2) fun _ _ e => .inr e).step hfs fun _ _ e => .inl e
  have hrow : ∀ i, some i = v.ownBlock → w.heap.size ≤ i ∧ ∃ cs, W4.heap[i]? = some (.cells cs 61 (0, 0)) := fun i e => by
    rcases ho4.2 with ⟨rfl, _⟩ | ⟨g', cap, cur, rfl, hbb, hh, _⟩
    · cases e
    · have e1 : i = g' := by simpa [Value.ownBlock] using e
      subst e1
      exact ⟨hbb, _, hh⟩
  have hge := h.ge
  refine ⟨⟨hall.size, fun k o hk hc => ?_⟩, fun b hb => ?_, ⟨⟨v2, ys ++ [y], ?_, ?_, ?_⟩, h.fr.step hall fun i hi e => ?_, h.ge⟩⟩
  · have hlt := (Array.getElem?_eq_some_iff.1 hk).1
    refine (hall.block k hlt fun e => ?_).trans hk
    rcases e with e | e
    · subst e
      unfold Bk at hbx
      rw [hbx] at hk
      injection hk with hk
      subst hk
      cases hc
    · obtain ⟨_, cs, h1⟩ := hrow k e
      rw [hW4.block k hlt fun e => e] at h1
      rw [h1] at hk
      injection hk with hk
      subst hk
      cases hc
  · obtain ⟨k1, k2, k3⟩ := hK b hb
    refine hall.block b k1 fun e => ?_
    rcases e with e | e
    · exact k2 e
    · obtain ⟨h1, cs, h2⟩ := hrow b e
      obtain ⟨T, cs', h3, h4⟩ := k3 h1
      exact Bk.apart (show Bk W4 b 61 cs from h2) (h3.fr hW4 fun e => e) (fun e => h4 e.symm) rfl
  · have h := hb5.put 0 v2
    simpa using h
  · have h := own_fr ho2 hfs fun i hi e => n3 (e ▸ hi)
    rw [List.length_append, List.length_singleton, itsR_append]
    exact h
  · have hb1 := Byt.not_row ho4 (by decide)
    have h5 : RowsOf W5 w.heap.size ys rs := (hys.fr hW4 fun _ _ e => e).fr (Fr.ofGrown hg2) hb1
    have h6 := h5.snoc hy1 (hy2.fr (Fr.ofGrown hg2) hb1)
    exact h6.fr hfs fun k hk e => Byt.no hb5 (by decide) (e ▸ hk)
  · rcases e with e | e
    · omega
    · have := (hrow i e).1; omega
end Go.Proofs.Ytkdcacajacndmaa
