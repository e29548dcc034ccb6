/- Plain mathematics for keys put in whatever order; a row cut short and appended to. No condition. -/
import Derived.Test.YtcpgonioobgpoaaN7S
import Derived.Test.YtcpgonioobgpoaaKg
import Derived.Test.YtcpgonioobgpoaaSpeaks2
namespace Go.Proofs.Ytcpgonioobgpoaa
open Go.RowKit
section
variable {K V : Type} {lt : K → K → Bool}
theorem mem_putG (L : Lin lt) {key : K} {v : V} {xs : List (K × V)} {p : K × V} : p ∈ putL lt key v xs ↔ p = (key, v) ∨ (p ∈ xs ∧ p.1 ≠ key) := by
  unfold putL
  simp only [List.mem_append, List.mem_cons, List.mem_filter]
  constructor
  · rintro (⟨h, h2⟩ | h | ⟨h, h2⟩)
    · exact .inr ⟨h, fun e => by rw [e, L.irr] at h2; cases h2⟩
    · exact .inl h
    · exact .inr ⟨h, fun e => by rw [e, L.irr] at h2; cases h2⟩
  · rintro (h | ⟨h, h2⟩)
    · exact .inr (.inl h)
    · cases e1 : lt p.1 key with
      | true => exact .inl ⟨h, rfl⟩
      | false =>
        cases e2 : lt key p.1 with
        | true => exact .inr (.inr ⟨h, rfl⟩)
        | false => exact absurd (L.tot e1 e2) h2
theorem up_eq (L : Lin lt) : ∀ (xs zs : List (K × V)), UpI lt xs → UpI lt zs → (∀ p, p ∈ xs ↔ p ∈ zs) → xs = zs
  | [], [], _, _, _ => rfl
  | [], z :: zs, _, _, h => by have := (h z).2 List.mem_cons_self; cases this
  | x :: xs, [], _, _, h => by have := (h x).1 List.mem_cons_self; cases this
  | x :: xs, z :: zs, hx, hz, h => by
    obtain ⟨hx1, hx2⟩ := List.pairwise_cons.1 hx
    obtain ⟨hz1, hz2⟩ := List.pairwise_cons.1 hz
    have e : x = z := by
      rcases List.mem_cons.1 ((h x).1 List.mem_cons_self) with e | e
      · exact e
      · rcases List.mem_cons.1 ((h z).2 List.mem_cons_self) with e2 | e2
        · exact e2.symm
        · have := L.tr (hz1 x e) (hx1 z e2); rw [L.irr] at this; cases this
    subst e
    rw [up_eq L xs zs hx2 hz2 fun p => ⟨fun hp => ?_, fun hp => ?_⟩]
    · rcases List.mem_cons.1 ((h p).1 (List.mem_cons_of_mem _ hp)) with e | e
      · subst e; have := hx1 _ hp; rw [L.irr] at this; cases this
      · exact e
    · rcases List.mem_cons.1 ((h p).2 (List.mem_cons_of_mem _ hp)) with e | e
      · subst e; have := hz1 _ hp; rw [L.irr] at this; cases this
      · exact e
theorem up_keys (L : Lin lt) {xs : List (K × V)} (h : UpI lt xs) : (xs.map Prod.fst).Nodup := by
  rw [List.Nodup, List.pairwise_map]
  exact h.imp fun {a b} hab e => by rw [e, L.irr] at hab; cases hab
end
theorem cut_mem {α : Type} {ks : List α} {k : Nat} {x y : α} (hn : ks.Nodup) (hk : ks[k]? = some x) : y ∈ ks.take k ++ ks.drop (k + 1) ↔ y ∈ ks ∧ y ≠ x := by
  have e := list_mid hk
  rw [e] at hn
  obtain ⟨h1, h2, h3⟩ := List.nodup_append.1 hn
  obtain ⟨h4, h5⟩ := List.nodup_cons.1 h2
  constructor
  · intro hy
    refine ⟨by rw [e]; rcases List.mem_append.1 hy with h | h; exact List.mem_append_left _ h; exact List.mem_append_right _ (List.mem_cons_of_mem _ h), fun he => ?_⟩
    subst he
    rcases List.mem_append.1 hy with h | h
    · exact h3 _ h _ List.mem_cons_self rfl
    · exact h4 h
  · rintro ⟨hy, hne⟩
    rw [e] at hy
    rcases List.mem_append.1 hy with h | h
    · exact List.mem_append_left _ h
    · rcases List.mem_cons.1 h with h | h
      · exact absurd h hne
      · exact List.mem_append_right _ h
theorem cut_nodup {α : Type} {ks : List α} (k : Nat) (hn : ks.Nodup) : (ks.take k ++ ks.drop (k + 1)).Nodup := by
  refine List.Pairwise.sublist ?_ hn
  have h : (ks.take k ++ ks.drop (k + 1)).Sublist (ks.take k ++ ks.drop k) := (List.Sublist.refl _).append (by rw [← List.drop_drop]; exact List.drop_sublist _ _)
  rwa [List.take_append_drop] at h
/-- the map has just what the list has. -/
def Rel (f : Bs → Option Value) (xs : List ItS) : Prop := ∀ key, (∀ v, (key, v) ∈ xs → f key = some (.int .i64 v)) ∧ ∀ u, f key = some u → ∃ v, u = .int .i64 v ∧ (key, v) ∈ xs
theorem Rel.put {f : Bs → Option Value} {xs : List ItS} (h : Rel f xs) (key : Bs) (v : Int) : Rel (updG f key (some (.int .i64 v))) (putL Op.bytesLess key v xs) := fun y => by
  by_cases e : y = key
  · subst e
    rw [updG_same]
    refine ⟨fun u hu => ?_, fun u hu => ?_⟩
    · rcases (mem_putG linS).1 hu with e | e
      · injection e with _ e; rw [e]
      · exact absurd rfl e.2
    · injection hu with hu
      exact ⟨v, hu.symm, (mem_putG linS).2 (.inl rfl)⟩
  · rw [updG_other _ _ e]
    refine ⟨fun u hu => ?_, fun u hu => ?_⟩
    · rcases (mem_putG linS).1 hu with e2 | e2
      · injection e2 with e2 _; exact absurd e2 e
      · exact (h y).1 u e2.1
    · obtain ⟨w, hw, hm⟩ := (h y).2 u hu
      exact ⟨w, hw, (mem_putG linS).2 (.inr ⟨hm, e⟩)⟩
theorem Rel.size {f : Bs → Option Value} {xs : List ItS} (h : Rel f xs) (hu : UpI Op.bytesLess xs) (key : Bs) (v : Int) : (if (f key).isSome then xs.length else xs.length + 1) = (putL Op.bytesLess key v xs).length := by
  by_cases e : ∃ u, (key, u) ∈ xs
  · obtain ⟨u, e⟩ := e
    rw [(h key).1 u e, putL_len_yes linS hu e]
    rfl
  · have hn : f key = none := by
      cases hf : f key with
      | none => rfl
      | some u => obtain ⟨w, _, hm⟩ := (h key).2 u hf; exact absurd ⟨w, hm⟩ e
    rw [hn, putL_len_no linS fun u hu => e ⟨u, hu⟩]
    rfl
/-- of xs the keys ks are still to be put; zs are those that were. -/
structure Part (xs zs : List ItS) (ks : List Bs) : Prop where
  sub : ∀ p ∈ zs, p ∈ xs
  nd : ks.Nodup
  out : ∀ key ∈ ks, (∃ v, (key, v) ∈ xs) ∧ ∀ v, (key, v) ∉ zs
  all : ∀ p ∈ xs, p.1 ∈ ks ∨ p ∈ zs
theorem Part.start {xs : List ItS} (hu : UpI Op.bytesLess xs) : Part xs [] (xs.map Prod.fst) :=
  ⟨(fun _ h => by cases h), up_keys linS hu, (fun key hk => by
    obtain ⟨p, hp, rfl⟩ := List.mem_map.1 hk
    exact ⟨⟨p.2, hp⟩, fun v h => by cases h⟩), fun p hp => .inl (List.mem_map.2 ⟨p, hp, rfl⟩)⟩
theorem Part.next {xs zs : List ItS} {ks : List Bs} (h : Part xs zs ks) {k : Nat} {key : Bs} {v : Int} (hk : ks[k]? = some key) (hv : (key, v) ∈ xs) (hu : UpI Op.bytesLess xs) : Part xs (putL Op.bytesLess key v zs) (ks.take k ++ ks.drop (k + 1)) := by
  refine ⟨fun p hp => ?_, cut_nodup k h.nd, fun y hy => ?_, fun p hp => ?_⟩
  · rcases (mem_putG linS).1 hp with rfl | hp
    · exact hv
    · exact h.sub p hp.1
  · obtain ⟨h1, h2⟩ := (cut_mem h.nd hk).1 hy
    refine ⟨(h.out y h1).1, fun u hu => ?_⟩
    rcases (mem_putG linS).1 hu with e | e
    · injection e with e _; exact h2 e
    · exact (h.out y h1).2 u e.1
  · by_cases e : p.1 = key
    · refine .inr ((mem_putG linS).2 (.inl ?_))
      obtain ⟨pk, pv⟩ := p
      dsimp only at e
      subst e
      obtain ⟨P, Q, rfl⟩ := mem_split hv
      obtain ⟨h3, h4⟩ := up_mid linS hu
      rcases List.mem_append.1 hp with h | h
      · rcases List.mem_append.1 h with h | h
        · have := h3 _ h; rw [less_irrefl] at this; cases this
        · exact List.mem_singleton.1 h
      · have := h4 _ h; rw [less_irrefl] at this; cases this
    · rcases h.all p hp with h1 | h1
      · exact .inl ((cut_mem h.nd hk).2 ⟨h1, e⟩)
      · exact .inr ((mem_putG linS).2 (.inr ⟨h1, e⟩))
theorem Part.done {xs zs : List ItS} (h : Part xs zs []) (hx : UpI Op.bytesLess xs) (hz : UpI Op.bytesLess zs) : zs = xs :=
  up_eq linS zs xs hz hx fun p => ⟨h.sub p, fun hp => (h.all p hp).resolve_left fun h => by cases h⟩
def kst (l : Bs) : Value := .string (bstr l)
theorem kst_one (ks : List Bs) : ∀ u ∈ ks.map kst, u.oneCell' = true := by
  intro u hu
  obtain ⟨p, _, rfl⟩ := List.mem_map.1 hu
  rfl
theorem RowW.cutc {w : World} {base : Nat} {e : TypeId} {n c : Nat} {A : Option Addr} {xs : List Value} (h : RowW w base e 1 (.slice A n c) n xs) {k : Nat} (hk : k < n) : RowW w base e 1 (.slice A k k) k (xs.take k) := by
  obtain ⟨h1, h2, h3⟩ := h
  refine ⟨by rw [List.length_take, h1]; omega, fun u hu => h2 u (List.mem_of_mem_take hu), ?_⟩
  rcases h3 with ⟨hv, hx⟩ | ⟨g, cap, cur, hv, hb, hg, hnc, hcm, hcs, htake⟩
  · injection hv with _ e2 _
    omega
  · injection hv with e1 e2 e3
    subst e1 e3
    refine .inr ⟨g, k, cur, rfl, hb, hg, Nat.le_refl _, by omega, by omega, ?_⟩
    rw [← htake, List.take_take]
    congr 1
    omega
theorem step_appRow {P : Program} {w : World} {ops : Array Oper} {o : Oper} {a : Act} {K : Act → World → Prop} {Q : Exit → Act → World → Prop} {E : Prop} (hgd : o.guard = none) (s x : Operand) (t : TypeId)
    (ho : o.op = .call { callee := .builtin .append, args := #[s, x], argTypes := #[t, t] })
    (base : Nat) (e : TypeId) (i : TypeInfo) (z : Value) (size bytes : Nat) (ht : P.underlying t = some (.slice e)) (hi : P.info? e = some i) (hz : i.zero = some z)
    (hsize : i.size = size) (hby : i.bytes = bytes) (hzs : z.cells.size = size) (hpos : 0 < size)
    (v : Value) (n : Nat) (xs : List Value) (hs : a.eval s = v) (hown : RowW w base e size v n xs)
    (A : Option Addr) (c m : Nat) (news : List Value) (hx : a.eval x = .slice A m c) (hm : news.length = m * size) (hr : Rd w A news) (h1 : ∀ u ∈ news, u.oneCell' = true)
    (hA : A = none → c = 0)
    (h63 : n + m ≤ maxLen) (hbytes : (n + m) * bytes ≤ 140737488355328) (hbase : base ≤ w.heap.size)
    (h : ∀ v' w', RowW w' base e size v' (n + m) (xs ++ news) → Fr (fun k => v.ownBlock = some k) w w' → (v'.ownBlock = v.ownBlock ∨ v'.ownBlock = some w.heap.size) → K (a.put o.dst v') w') :
    if Region.wanted o (yielded ops a.tmps) = true then Oper.wp P o a w K Q else E := by
  have hw : Region.wanted o (yielded ops a.tmps) = true := by simp [Region.wanted, hgd]
  rw [if_pos hw]
  obtain ⟨v', w', hrun, h2, h3, h5⟩ := run_append_rowW (P := P) w base t o.type e i z size bytes ht hi hz hsize hby hzs hpos v n xs hown A c m news hm hr h1 hA h63 hbytes hbase
  unfold Oper.wp execOp
  simp only [ho, resolve, invoke, builtin, Sem.run_bind, Sem.run_pure, Result.andThen_ok, List.map_toArray, List.map_cons, List.map_nil, hs, hx, hrun]
  exact h v' w' h2 h3 h5
end Go.Proofs.Ytcpgonioobgpoaa
