/- Voters at int, and leaders, each in blocks of its own, beside rows and a map of the law's. No condition. -/
import Derived.Test.YtlajhnplkfiiiaaPxQ
namespace Go.Proofs.Ytlajhnplkfiiiaa
open Go.RowKit Go.Maps Go.Shelf

theorem wpList_appO {P : Program} {w : World} {ops : Array Oper} {rest : List Oper} {o : Oper} {a : Act} {Q : Exit → Act → World → Prop} (hgd : o.guard = none) (s x : Operand) (t : TypeId)
    (ho : o.op = .call { callee := .builtin .append, args := #[s, x], argTypes := #[t, t] })
    (base : Nat) (e : TypeId) (i : TypeInfo) (z : Value) (size bytes : Nat) (ht : P.underlying t = some (.slice e)) (hi : P.info? e = some i) (hz : i.zero = some z)
    (hsize : i.size = size) (hby : i.bytes = bytes) (hzs : z.cells.size = size) (hpos : 0 < size)
    (v : Value) (n : Nat) (xs : List Value) (hs : a.eval s = v) (hown : w.ownsRow base e size v n xs)
    (ad : Addr) (c m : Nat) (news : List Value) (hx : a.eval x = .slice (some ad) m c) (hm : news.length = m * size) (hr : Rd w (some ad) news) (h1 : ∀ u ∈ news, u.oneCell' = true)
    (h63 : n + m ≤ maxLen) (hbytes : (n + m) * bytes ≤ 140737488355328) (hbase : base ≤ w.heap.size)
    (h : ∀ v' w', w'.ownsRow base e size v' (n + m) (xs ++ news) → w.grownBy w' v.ownBlock → (v'.ownBlock = v.ownBlock ∨ v'.ownBlock = some w.heap.size) →
      wpList P ops Q rest (a.put o.dst v') w') : wpList P ops Q (o :: rest) a w :=
  wpList_plain hgd fun K hK => by
    obtain ⟨v', w', hrun, h2, h3, _, h5⟩ := run_append_own_at (P := P) w base t o.type e i z size bytes ht hi hz hsize hby hzs hpos v n xs hown ad m c news hm
      (fun j u hu => by
        obtain ⟨b, o, e', hc⟩ := hr (by have := (List.getElem?_eq_some_iff.1 hu).1; omega)
        injection e' with e'
        subst e'
        have := hc j u hu
        unfold Addr.add
        split
        · subst j; simpa using this
        · exact this) h1 h63 hbytes hbase
    unfold Oper.wp execOp
    simp only [ho, resolve, invoke, builtin, Sem.run_bind, Sem.run_pure, Result.andThen_ok, List.map_toArray, List.map_cons, List.map_nil, hs, hx, hrun]
    exact hK _ _ (h v' w' h2 h3 h5)

theorem own_blk {w : World} {base : Nat} {e : TypeId} {size n : Nat} {v : Value} {xs : List Value} (h : w.ownsRow base e size v n xs) {k : Nat} (hk : v.ownBlock = some k) : base ≤ k ∧ k < w.heap.size := by
  rcases h.2 with ⟨h1, _⟩ | ⟨g, cap, cur, h1, h2, hh, _⟩
  · rw [h1] at hk; cases hk
  · rw [h1] at hk
    have : g = k := by simpa [Value.ownBlock] using hk
    subst this
    exact ⟨h2, (Array.getElem?_eq_some_iff.1 hh).1⟩
/-- how the cells of a list that is the call's own are read. -/
theorem own_cells {w : World} {base : Nat} {e : TypeId} {size n : Nat} {v : Value} {xs : List Value} (h : w.ownsRow base e size v n xs) : Rd w (match v with | .slice A _ _ => A | _ => none) xs ∧ ∀ u, xs[0]? = some u → ∃ b c, v = .slice (some ⟨b, 0, none⟩) n c ∧ ∀ j u, xs[j]? = some u → w.cell? ⟨b, j, none⟩ = some u := by
  rcases h.2 with ⟨hv, rfl⟩ | ⟨g, cap, cur, rfl, _, hh, hnc, hsz, hcs, htake⟩
  · have h1 := h.1
    have : xs = [] := List.eq_nil_of_length_eq_zero (by simpa using h1)
    subst this
    exact ⟨fun h => absurd h (by simp), fun u hu => by cases hu⟩
  · have hall : ∀ j u, xs[j]? = some u → w.cell? ⟨g, j, none⟩ = some u := fun j u hu => by
      rw [cell_of_row _ _ _ _ _ _ hh]
      have hl := (List.getElem?_eq_some_iff.1 hu).1
      rw [← htake, List.getElem?_take] at hu
      split at hu
      · simpa using hu
      · cases hu
    exact ⟨fun _ => ⟨g, 0, rfl, fun j u hu => by rw [Nat.zero_add]; exact hall j u hu⟩, fun u _ => ⟨g, cap, rfl, hall⟩⟩
theorem own_from {w : World} {base : Nat} {e : TypeId} {size n : Nat} {A : Option Addr} {m c : Nat} {xs : List Value} (h : w.ownsRow base e size (.slice A m c) n xs) : ∀ b, ablk A b → base ≤ b := by
  rintro b ⟨x, rfl, rfl⟩
  rcases h.2 with ⟨hv, _⟩ | ⟨g, cap, cur, hv, hb, _⟩
  · cases hv
  · injection hv with hv _ _
    injection hv with hv
    subst hv
    exact hb
theorem ptrV : (Try.prog.info? 27).map (fun i => (i.zero, i.size, i.bytes)) = some (some (Value.pointer none), 1, 8) := by kernel_rfl
theorem ptrL : (Try.prog.info? 29).map (fun i => (i.zero, i.size, i.bytes)) = some (some (Value.pointer none), 1, 8) := by kernel_rfl
/-- a voter: where it lies, its tree's blocks, what it promised and took. -/
structure ViU where
  g : Nat
  gt : Nat
  O : Nat → Prop
  p : Nat
  xs : List ItU
def ViU.bl (v : ViU) : Nat → Prop := fun b => b = v.g ∨ v.O b
/-- they lie there, made since W, apart from each other and from R. -/
structure GrpU (W w : World) (R : Nat → Prop) (vs : List ViU) : Prop where
  each : ∀ v ∈ vs, VoU w W.heap.size v.g v.gt v.O v.p v.xs
  apart : vs.Pairwise fun a b => ∀ k, a.bl k → ¬ b.bl k
  row : ∀ v ∈ vs, ∀ k, v.bl k → ¬ R k
  fr : Fr NoBlk W w
theorem VoU.lt {w : World} {B : Nat} {v : ViU} (h : VoU w B v.g v.gt v.O v.p v.xs) {k : Nat} (hk : v.bl k) : k < w.heap.size := by
  rcases hk with rfl | hk
  · exact h.bk.lt
  · exact h.tr.lt hk
theorem VoU.since {w : World} {B : Nat} {v : ViU} (h : VoU w B v.g v.gt v.O v.p v.xs) {k : Nat} (hk : v.bl k) : B ≤ k := by
  rcases hk with rfl | hk
  · exact h.ge.1
  · exact h.ge.2 k hk
section
variable {W w w' : World} {R : Nat → Prop} {vs : List ViU} (h : GrpU W w R vs)
include h
theorem GrpU.nofr (hf : Fr NoBlk w w') : GrpU W w' R vs := ⟨fun v hv => (h.each v hv).nofr hf, h.apart, h.row, h.fr.trans hf⟩
/-- the row has grown. -/
theorem GrpU.grown {R' : Nat → Prop} (hf : Fr R w w') (hw : Fr NoBlk W w') (hR : ∀ k, R' k → R k ∨ w.heap.size ≤ k) : GrpU W w' R' vs :=
  ⟨fun v hv => (h.each v hv).fr hf (h.row v hv _ (.inl rfl)) (fun b hb => h.row v hv b (.inr hb)), h.apart, fun v hv k hk e => by
    rcases hR k e with e | e
    · exact h.row v hv k hk e
    · have := (h.each v hv).lt hk; omega, hw⟩
/-- one more, in new blocks. -/
theorem GrpU.more {u : ViU} (hu : VoU w' w.heap.size u.g u.gt u.O u.p u.xs) (hf : Fr NoBlk w w') (hR : ∀ k, R k → k < w.heap.size) : GrpU W w' R (vs ++ [u]) := by
  have hsz := h.fr.size
  refine ⟨fun v hv => ?_, ?_, fun v hv k hk e => ?_, h.fr.trans hf⟩
  · rcases List.mem_append.1 hv with hv | hv
    · exact (h.each v hv).nofr hf
    · rw [List.mem_singleton.1 hv]
      exact hu.low hsz
  · rw [List.pairwise_append]
    refine ⟨h.apart, List.pairwise_singleton _ _, fun a ha b hb k hk e => ?_⟩
    rw [List.mem_singleton.1 hb] at e
    have := (h.each a ha).lt hk
    have := hu.since e
    omega
  · rcases List.mem_append.1 hv with hv | hv
    · exact h.row v hv k hk e
    · rw [List.mem_singleton.1 hv] at hk
      have := hu.since hk
      have := hR k e
      omega
/-- one of them has turned. -/
theorem GrpU.turned {i : Nat} {v u : ViU} (hv : vs[i]? = some v) (hu : VoU w' W.heap.size u.g u.gt u.O u.p u.xs) (hf : Fr v.bl w w') (hb : ∀ k, u.bl k → v.bl k ∨ w.heap.size ≤ k) (hR : ∀ k, R k → k < w.heap.size) : GrpU W w' R (vs.set i u) := by
  have hi := (List.getElem?_eq_some_iff.1 hv).1
  have hvm := List.mem_of_getElem? hv
  have hne : ∀ j a, vs[j]? = some a → j ≠ i → ∀ k, a.bl k → ¬ v.bl k := fun j a hj hji k hk e => by
    have hp := List.pairwise_iff_getElem.1 h.apart
    have hjl := (List.getElem?_eq_some_iff.1 hj).1
    have ej := (List.getElem?_eq_some_iff.1 hj).2
    have ei := (List.getElem?_eq_some_iff.1 hv).2
    rcases Nat.lt_or_ge j i with hlt | hge
    · exact hp j i hjl hi hlt k (by rw [ej]; exact hk) (by rw [ei]; exact e)
    · exact hp i j hi hjl (by omega) k (by rw [ei]; exact e) (by rw [ej]; exact hk)
  have hget : ∀ j a, (vs.set i u)[j]? = some a → (j = i ∧ a = u) ∨ (j ≠ i ∧ vs[j]? = some a) := fun j a hj => by
    by_cases e : j = i
    · subst e
      rw [List.getElem?_set_self hi] at hj
      injection hj with hj
      exact .inl ⟨rfl, hj.symm⟩
    · rw [List.getElem?_set_ne (fun x => e x.symm)] at hj
      exact .inr ⟨e, hj⟩
  refine ⟨fun a ha => ?_, List.pairwise_iff_getElem.2 fun j l hj hl hjl k hk e => ?_, fun a ha k hk e => ?_, h.fr.step hf fun k hk e => by have := (h.each v hvm).since e; omega⟩
  · obtain ⟨j, hj⟩ := List.getElem?_of_mem ha
    rcases hget j a hj with ⟨_, rfl⟩ | ⟨hji, hj⟩
    · exact hu
    · exact (h.each a (List.mem_of_getElem? hj)).fr hf (hne j a hj hji _ (.inl rfl)) (fun b hb => hne j a hj hji b (.inr hb))
  · have e1 := hget j _ (List.getElem?_eq_getElem hj)
    have e2 := hget l _ (List.getElem?_eq_getElem hl)
    rcases e1 with ⟨rfl, e1⟩ | ⟨n1, e1⟩ <;> rcases e2 with ⟨rfl, e2⟩ | ⟨n2, e2⟩
    · omega
    · rw [e1] at hk
      have hlt := (h.each _ (List.mem_of_getElem? e2)).lt e
      rcases hb k hk with hk | hk
      · exact hne l _ e2 n2 k e hk
      · omega
    · rw [e2] at e
      have hlt := (h.each _ (List.mem_of_getElem? e1)).lt hk
      rcases hb k e with e | e
      · exact hne j _ e1 n1 k hk e
      · omega
    · have hp := List.pairwise_iff_getElem.1 h.apart
      have l1 := (List.getElem?_eq_some_iff.1 e1).1
      have l2 := (List.getElem?_eq_some_iff.1 e2).1
      have g1 := (List.getElem?_eq_some_iff.1 e1).2
      have g2 := (List.getElem?_eq_some_iff.1 e2).2
      exact hp j l l1 l2 hjl k (by rw [g1]; exact hk) (by rw [g2]; exact e)
  · obtain ⟨j, hj⟩ := List.getElem?_of_mem ha
    rcases hget j a hj with ⟨_, rfl⟩ | ⟨hji, hj⟩
    · rcases hb k hk with hk | hk
      · exact h.row v hvm k hk e
      · have := hR k e; omega
    · exact h.row a (List.mem_of_getElem? hj) k hk e
end
theorem GrpU.nil {W w : World} (R : Nat → Prop) (hf : Fr NoBlk W w) : GrpU W w R [] := ⟨fun _ h => (by cases h), List.Pairwise.nil, fun _ h => (by cases h), hf⟩

/-- where a leader lies. -/
structure LqJ where
  g : Nat
  bp : Nat
  bt : Nat
  bv : Nat
def LqJ.bl (a : LqJ) : Nat → Prop := fun k => k = a.g ∨ k = a.bp ∨ k = a.bt ∨ k = a.bv
abbrev LdJ (w : World) (B : Nat) (a : LqJ) (L : LdrI) : Prop := LdI w B a.g a.bp a.bt a.bv L
theorem LdJ.lt {w : World} {B : Nat} {a : LqJ} {L : LdrI} (h : LdJ w B a L) {k : Nat} (hk : a.bl k) : k < w.heap.size := by
  rcases hk with rfl | rfl | rfl | rfl
  · exact h.bk.lt
  · exact h.kp.lt
  · exact h.kt.lt
  · exact h.kv.lt
theorem LdJ.since {w : World} {B : Nat} {a : LqJ} {L : LdrI} (h : LdJ w B a L) {k : Nat} (hk : a.bl k) : B ≤ k := by
  rcases hk with rfl | rfl | rfl | rfl
  · exact h.b0
  · exact h.b1
  · exact h.b2
  · exact h.b3
theorem LdJ.far {w w' : World} {B : Nat} {a : LqJ} {L : LdrI} {C : Nat → Prop} (h : LdJ w B a L) (hf : Fr C w w') (hn : ∀ k, a.bl k → ¬ C k) : LdJ w' B a L :=
  h.fr hf (hn _ (.inl rfl)) (hn _ (.inr (.inl rfl))) (hn _ (.inr (.inr (.inl rfl)))) (hn _ (.inr (.inr (.inr rfl))))
theorem LdJ.low {w : World} {B B' : Nat} {a : LqJ} {L : LdrI} (h : LdJ w B a L) (hb : B' ≤ B) : LdJ w B' a L :=
  ⟨h.bk, h.kp, h.kt, h.kv, h.n1, h.n2, h.n3, Nat.le_trans hb h.b0, Nat.le_trans hb h.b1, Nat.le_trans hb h.b2, Nat.le_trans hb h.b3, h.vo, h.sl, h.vd⟩
def LB (ls : List LqJ) : Nat → Prop := fun k => ∃ (j : Nat) (a : LqJ), ls[j]? = some a ∧ a.bl k
structure AG (W w : World) (S : Nat → Prop) (vs : List ViU) (ls : List LqJ) (LI : Nat → LdrI) : Prop where
  grp : GrpU W w (fun k => S k ∨ LB ls k) vs
  ld : ∀ (j : Nat) (a : LqJ), ls[j]? = some a → LdJ w W.heap.size a (LI j)
  ap : ∀ (i j : Nat) (a b : LqJ), ls[i]? = some a → ls[j]? = some b → i ≠ j → ∀ k, a.bl k → ¬ b.bl k
  sl : ∀ k, S k → k < w.heap.size ∧ ¬ LB ls k
section
variable {W w w' : World} {S : Nat → Prop} {vs : List ViU} {ls : List LqJ} {LI : Nat → LdrI} (h : AG W w S vs ls LI)
include h
theorem AG.fr : Fr NoBlk W w := h.grp.fr
theorem AG.lbl {k : Nat} (hk : LB ls k) : k < w.heap.size := by
  obtain ⟨j, a, ha, hk⟩ := hk
  exact LdJ.lt (h.ld j a ha) hk
theorem AG.lts : ∀ k, S k ∨ LB ls k → k < w.heap.size := fun k hk => hk.elim (fun e => (h.sl k e).1) h.lbl
theorem AG.nofr (hf : Fr NoBlk w w') : AG W w' S vs ls LI := ⟨h.grp.nofr hf, fun j a ha => (h.ld j a ha).nofr hf, h.ap, fun k hk => ⟨Nat.lt_of_lt_of_le (h.sl k hk).1 hf.size, (h.sl k hk).2⟩⟩
theorem AG.far {S' : Nat → Prop} (hf : Fr S w w') (hw : Fr NoBlk W w') (hS : ∀ k, S' k → S k ∨ w.heap.size ≤ k) (hl : ∀ k, S' k → k < w'.heap.size) : AG W w' S' vs ls LI := by
  refine ⟨h.grp.grown (hf.mono fun _ _ e => .inl e) hw (fun k hk => ?_), fun j a ha => LdJ.far (h.ld j a ha) hf fun k hk e => (h.sl k e).2 ⟨j, a, ha, hk⟩, h.ap, fun k hk => ⟨hl k hk, fun e => ?_⟩⟩
  · rcases hk with hk | hk
    · exact (hS k hk).imp (fun e => .inl e) id
    · exact .inl (.inr hk)
  · rcases hS k hk with e2 | e2
    · exact (h.sl k e2).2 e
    · have := h.lbl e; omega
theorem AG.vmore {u : ViU} (hu : VoU w' w.heap.size u.g u.gt u.O u.p u.xs) (hf : Fr NoBlk w w') : AG W w' S (vs ++ [u]) ls LI :=
  ⟨h.grp.more hu hf h.lts, fun j a ha => (h.ld j a ha).nofr hf, h.ap, fun k hk => ⟨Nat.lt_of_lt_of_le (h.sl k hk).1 hf.size, (h.sl k hk).2⟩⟩
theorem AG.vturn {i : Nat} {v u : ViU} (hv : vs[i]? = some v) (hu : VoU w' W.heap.size u.g u.gt u.O u.p u.xs) (hf : Fr v.bl w w') (hb : ∀ k, u.bl k → v.bl k ∨ w.heap.size ≤ k) : AG W w' S (vs.set i u) ls LI := by
  have hm := List.mem_of_getElem? hv
  exact ⟨h.grp.turned hv hu hf hb h.lts, fun j a ha => LdJ.far (h.ld j a ha) hf fun k hk e => h.grp.row v hm k e (.inr ⟨j, a, ha, hk⟩), h.ap, fun k hk => ⟨Nat.lt_of_lt_of_le (h.sl k hk).1 hf.size, (h.sl k hk).2⟩⟩
theorem AG.lturn {j : Nat} {a : LqJ} {L' : LdrI} (ha : ls[j]? = some a) (hl : LdJ w' W.heap.size a L') (hf : Fr a.bl w w') : AG W w' S vs ls (setN LI j L') := by
  refine ⟨h.grp.grown (hf.mono fun _ _ e => .inr ⟨j, a, ha, e⟩) (h.fr.step hf fun k hk e => by have := LdJ.since (h.ld j a ha) e; omega) (fun k hk => .inl hk), fun i b hb => ?_, h.ap, fun k hk => ⟨Nat.lt_of_lt_of_le (h.sl k hk).1 hf.size, (h.sl k hk).2⟩⟩
  by_cases e : i = j
  · subst e
    rw [setN_same]
    rw [ha] at hb
    injection hb with hb
    subst hb
    exact hl
  · rw [setN_other _ _ e]
    exact LdJ.far (h.ld i b hb) hf fun k hk e2 => h.ap i j b a hb ha e k hk e2
theorem AG.lmore {a : LqJ} {L' : LdrI} (hl : LdJ w' w.heap.size a L') (hf : Fr NoBlk w w') : AG W w' S vs (ls ++ [a]) (setN LI ls.length L') := by
  have hsz := h.fr.size
  have hget : ∀ (j : Nat) (b : LqJ), (ls ++ [a])[j]? = some b → (j < ls.length ∧ ls[j]? = some b) ∨ (j = ls.length ∧ b = a) := fun j b hb => by
    by_cases e : j < ls.length
    · rw [List.getElem?_append_left e] at hb
      exact .inl ⟨e, hb⟩
    · have hj := (List.getElem?_eq_some_iff.1 hb).1
      rw [List.length_append, List.length_singleton] at hj
      have e2 : j = ls.length := by omega
      subst e2
      rw [List.getElem?_append_right (Nat.le_refl _), Nat.sub_self] at hb
      injection hb with hb
      exact .inr ⟨rfl, hb.symm⟩
  have hLB : ∀ k, LB (ls ++ [a]) k → LB ls k ∨ a.bl k := fun k ⟨j, b, hb, hk⟩ => by
    rcases hget j b hb with ⟨_, hb⟩ | ⟨_, rfl⟩
    · exact .inl ⟨j, b, hb, hk⟩
    · exact .inr hk
  have g := h.grp.nofr hf
  refine ⟨⟨g.each, g.apart, fun v hv k hk e => ?_, g.fr⟩, fun j b hb => ?_, fun i j b c hb hc hij k hk e => ?_, fun k hk => ⟨Nat.lt_of_lt_of_le (h.sl k hk).1 hf.size, fun e => ?_⟩⟩
  · rcases e with e | e
    · exact h.grp.row v hv k hk (.inl e)
    · rcases hLB k e with e | e
      · exact h.grp.row v hv k hk (.inr e)
      · have := (h.grp.each v hv).lt hk
        have := LdJ.since hl e
        omega
  · rcases hget j b hb with ⟨hj, hb⟩ | ⟨rfl, rfl⟩
    · rw [setN_other _ _ (by omega)]
      exact (h.ld j b hb).nofr hf
    · rw [setN_same]
      exact LdJ.low hl hsz
  · rcases hget i b hb with ⟨h1, h2⟩ | ⟨h1, rfl⟩ <;> rcases hget j c hc with ⟨h3, h4⟩ | ⟨h3, rfl⟩
    · exact h.ap i j b c h2 h4 hij k hk e
    · have := LdJ.lt (h.ld i b h2) hk
      have := LdJ.since hl e
      omega
    · have := LdJ.lt (h.ld j c h4) e
      have := LdJ.since hl hk
      omega
    · omega
  · rcases hLB k e with e | e
    · exact (h.sl k hk).2 e
    · have := (h.sl k hk).1
      have := LdJ.since hl e
      omega
end
end Go.Proofs.Ytlajhnplkfiiiaa
